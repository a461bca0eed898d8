"""The desk: keeps machines by names, and answers rows of words with texts."""

from kinlook.deeds import LETTERS
from kinlook.easing import eased
from kinlook.errors import NoName, NoRow
from kinlook.leasts import least_of
from kinlook.machines import joined
from kinlook.mixes import beside, hide, rename
from kinlook.oneway import can
from kinlook.partings import parting_of
from kinlook.scrolls import holds
from kinlook.sentences import read_sentence, show_scroll
from kinlook.texts import read, shown

MOST_LETTERS_OF_NAMES = 8
# How many words a row has, by its first word: just so many, or at least so many.
WORDS = {"least": 3, "drop": 2, "show": 2, "states": 2, "alike": 3, "kin": 3, "can": 3, "why": 3}
LEAST_WORDS = {"machine": 3, "beside": 4, "hide": 3, "rename": 3, "holds": 3, "eased": 3}
MAKERS = ("machine", "beside", "hide", "rename", "least")


def words_of(row):
    if not isinstance(row, str):
        raise NoRow("this is no text")
    words = row.split(" ")
    if words[0] in WORDS and len(words) == WORDS[words[0]]:
        return words
    if words[0] in LEAST_WORDS and len(words) >= LEAST_WORDS[words[0]]:
        return words
    raise NoRow("this is no row of the desk")


def check_name(word):
    if not 1 <= len(word) <= MOST_LETTERS_OF_NAMES or not all([sign in LETTERS for sign in word]):
        raise NoName("this is no name")


def pair_of(word):
    # A word of another form makes a pair that rename refuses: a half of it is no open deed.
    halves = word.partition(">")
    return (halves[0], halves[2])


def yes_or_no(truth):
    return "yes" if truth else "no"


def compared(word, one, other):
    if word == "alike":
        return yes_or_no(least_of(one) == least_of(other))
    if word == "kin":
        return yes_or_no(least_of(eased(one)) == least_of(eased(other)))
    both = joined(one, other)
    if word == "can":
        return yes_or_no(can(both, 0, one[0]))
    parting = parting_of(both, 0, one[0])
    return "none" if parting is None else show_scroll(parting)


class Desk:
    def __init__(self):
        self.machines = {}

    def standing(self, name):
        if name not in self.machines:
            raise NoName("no machine stands by this name")
        return self.machines[name]

    def new_machine(self, words):
        if words[0] == "machine":
            return read(" ".join(words[2:]))
        one = self.standing(words[2])
        if words[0] == "beside":
            return beside(one, self.standing(words[3]), words[4:])
        if words[0] == "hide":
            return hide(one, words[3:])
        if words[0] == "rename":
            return rename(one, [pair_of(word) for word in words[3:]])
        return least_of(one)

    def answer(self, words):
        one = self.standing(words[1])
        if words[0] == "show":
            return shown(one)
        if words[0] == "states":
            return str(one[0])
        if words[0] == "holds":
            return yes_or_no(holds(one, read_sentence(" ".join(words[2:])), 0))
        if words[0] == "eased":
            return yes_or_no(holds(eased(one), read_sentence(" ".join(words[2:])), 0))
        return compared(words[0], one, self.standing(words[2]))

    def say(self, row):
        words = words_of(row)
        if words[0] in MAKERS:
            check_name(words[1])
            # Kept only when it is made, so that what is refused changes nothing.
            self.machines[words[1]] = self.new_machine(words)
            return "ok"
        if words[0] == "drop":
            self.standing(words[1])
            self.machines.pop(words[1])
            return "ok"
        return self.answer(words)

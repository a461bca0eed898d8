"""[33] the desk: its rows, its answers, and what is refused, in order."""

import unittest
from itertools import product

from kinlook.desk import Desk
from kinlook.easing import eased
from kinlook.errors import KinError, NoDeed, NoMachine, NoName, NoRow, NoText, TooBig
from kinlook.leasts import least_of
from kinlook.machines import joined, made
from kinlook.mixes import beside, hide, rename
from kinlook.sentences import read_scroll, read_sentence
from kinlook.texts import read, shown
from samples import assert_refused, begin_alike, eased_by_words, some_machines, true_states, truths

TEXTS = {
    "one": "3: 0 a 1, 1 b 2",
    "two": "2: 0 a 1, 0 b 1",
    "same": "4: 0 a 1, 0 a 3, 1 b 2, 3 b 2",
    "slow": "4: 0 * 1, 1 a 2, 2 b 3",
    "big": "20: 0 a 19, 5 b 6",
    "wide": "1: 0 a 0, 0 b 0, 0 c 0, 0 d 0, 0 e 0, 0 f 0",
    "more": "1: 0 g 0, 0 h 0",
}
NAMES = sorted(TEXTS)
# Words that are no names.
NO_NAMES = ["", "abcdefghi", "A", "aB", "a1", "1", "*", "a_b", "a-b", "a>b", "a.", ":", "1:", "~"]
NO_OPEN_DEEDS = ["", "*", "abcdefg", "A", "a1", "1", "a>b", "**", "a,b"]
NO_PAIRS = ["", ">", "a", "ab", "a>", ">b", "a>b>c", "a>>b", "a>*", "*>a", "*>*", "A>b", "a>B", "abcdefg>a", "a>abcdefg",
            "a<b", "a,b", "a>b>", ">a>b", "a1>b", "->a"]
NO_TEXTS = [None, True, False, 0, 1, 1.5, b"show one", [], ["show", "one"], (), ("show", "one"), {}, {"show"}, object(), str]


def full_desk():
    desk = Desk()
    for name in TEXTS:
        desk.say("machine " + name + " " + TEXTS[name])
    return desk


def stand_by(desk, names):
    """What stands by each name, as text, or None."""
    found = {}
    for name in names:
        try:
            found[name] = desk.say("show " + name)
        except NoName:
            found[name] = None
    return found


class DeskCase(unittest.TestCase):
    def setUp(self):
        self.desk = full_desk()

    def say(self, row, answer):
        told = self.desk.say(row)
        self.assertIs(type(told), str)
        self.assertEqual(told, answer)

    def refuse(self, refusal, row):
        """The row is refused, and every machine stays as it stood."""
        names = NAMES + ["new", "zz", "x"]
        ahead = stand_by(self.desk, names)
        with self.subTest(row=row):
            assert_refused(self, refusal, self.desk.say, row)
            self.assertEqual(stand_by(self.desk, names), ahead)


class Making(DeskCase):
    def test_machine(self):
        self.say("machine new 3: 2 ab 0, 0 a 2, 0 * 1, 0 a 2", "ok")
        self.say("show new", "3: 0 * 1, 0 a 2, 2 ab 0")
        self.say("machine new 1:", "ok")
        self.say("show new", "1:")

    def test_names_of_one_and_of_eight_letters(self):
        for name in ("a", "z", "abcdefgh", "zzzzzzzz", "q"):
            self.say("machine " + name + " 2: 0 a 1", "ok")
            self.say("show " + name, "2: 0 a 1")
            self.say("least " + name + " " + name, "ok")
            self.say("drop " + name, "ok")

    def test_names_that_are_words_of_the_desk(self):
        for name in ("machine", "show", "drop", "why", "ok", "yes", "none", "holds"):
            self.say("machine " + name + " 1: 0 a 0", "ok")
            self.say("show " + name, "1: 0 a 0")
            self.say("alike " + name + " " + name, "yes")
            self.say("holds " + name + " some a yes", "yes")

    def test_beside(self):
        one, two = read(TEXTS["one"]), read(TEXTS["two"])
        for deeds in ([], ["a"], ["b", "a"], ["a", "a"], ["q"]):
            self.say(" ".join(["beside new one two"] + deeds), "ok")
            self.say("show new", shown(beside(one, two, deeds)))
            self.say(" ".join(["beside new two one"] + deeds), "ok")
            self.say("show new", shown(beside(two, one, deeds)))

    def test_hide(self):
        for deeds in ([], ["a"], ["b", "a"], ["a", "a", "q"]):
            self.say(" ".join(["hide new one"] + deeds), "ok")
            self.say("show new", shown(hide(read(TEXTS["one"]), deeds)))

    def test_rename(self):
        for pairs in ([], [("a", "z")], [("a", "b"), ("b", "a")], [("a", "c"), ("a", "d")], [("q", "a")]):
            self.say(" ".join(["rename new one"] + [old + ">" + new for old, new in pairs]), "ok")
            self.say("show new", shown(rename(read(TEXTS["one"]), pairs)))

    def test_least(self):
        for name in NAMES:
            self.say("least new " + name, "ok")
            self.say("show new", shown(least_of(read(TEXTS[name]))))
        self.say("least new same", "ok")
        self.say("states new", "3")

    def test_a_new_name_by_which_a_machine_stands(self):
        self.say("hide two one a", "ok")
        self.say("show two", "3: 0 * 1, 1 b 2")
        self.say("show one", TEXTS["one"])

    def test_a_new_name_that_is_one_of_those_asked_for(self):
        one, two = read(TEXTS["one"]), read(TEXTS["two"])
        self.say("beside one one two a", "ok")
        self.say("show one", shown(beside(one, two, ["a"])))
        self.say("show two", TEXTS["two"])
        self.say("machine one " + TEXTS["one"], "ok")
        self.say("beside two one two a", "ok")
        self.say("show two", shown(beside(one, two, ["a"])))
        self.say("beside one one one", "ok")
        self.say("show one", shown(beside(one, one, [])))
        self.say("hide same same a", "ok")
        self.say("rename same same b>c", "ok")
        self.say("show same", "4: 0 * 1, 0 * 3, 1 c 2, 3 c 2")
        self.say("least same same", "ok")
        self.say("show same", shown(least_of(read("4: 0 * 1, 0 * 3, 1 c 2, 3 c 2"))))

    def test_deeds_that_are_words_of_the_desk(self):
        self.say("machine new 2: 0 show 1, 1 beside 0, 1 hide 1", "ok")
        self.say("hide x new show", "ok")
        self.say("show x", "2: 0 * 1, 1 beside 0, 1 hide 1")
        self.say("rename x new show>drop beside>least", "ok")
        self.say("show x", "2: 0 drop 1, 1 hide 1, 1 least 0")
        self.say("beside x new new hide", "ok")
        self.say("show x", shown(beside(*[read("2: 0 show 1, 1 beside 0, 1 hide 1")] * 2, ["hide"])))
        self.say("holds new some show some hide yes", "yes")

    def test_names_that_are_deeds_of_the_machines(self):
        self.say("machine a 2: 0 a 1, 1 b 0", "ok")
        self.say("machine b 2: 0 b 1, 1 a 0", "ok")
        m, other = read("2: 0 a 1, 1 b 0"), read("2: 0 b 1, 1 a 0")
        self.say("hide new a", "ok")
        self.say("show new", shown(m))
        self.say("hide a a b", "ok")
        self.say("show a", "2: 0 a 1, 1 * 0")
        self.say("machine a 2: 0 a 1, 1 b 0", "ok")
        self.say("beside new a b", "ok")
        self.say("show new", shown(beside(m, other, [])))
        self.say("beside b a b a", "ok")
        self.say("show b", shown(beside(m, other, ["a"])))

    def test_names_that_are_too_long_for_deeds(self):
        self.say("machine abcdefgh 1: 0 a 0", "ok")
        self.say("hide new abcdefgh", "ok")
        self.say("beside new abcdefgh abcdefgh", "ok")
        self.say("rename new abcdefgh", "ok")
        self.say("show new", "1: 0 a 0")

    def test_drop(self):
        self.say("drop one", "ok")
        self.refuse(NoName, "show one")
        self.refuse(NoName, "drop one")
        self.say("show two", TEXTS["two"])
        self.say("machine one 1:", "ok")
        self.say("show one", "1:")

    def test_what_was_made_stays_when_its_source_goes(self):
        self.say("hide new one", "ok")
        self.say("drop one", "ok")
        self.say("show new", TEXTS["one"])
        self.say("beside x new two", "ok")
        self.say("machine new 1:", "ok")
        self.say("show x", shown(beside(read(TEXTS["one"]), read(TEXTS["two"]), [])))


class Asking(DeskCase):
    def test_show_and_states(self):
        for name, text in TEXTS.items():
            self.say("show " + name, text)
            self.say("states " + name, text.split(":")[0])

    def test_alike(self):
        self.say("alike one same", "yes")
        self.say("alike one two", "no")
        self.say("alike one slow", "no")
        self.say("alike big big", "yes")
        self.say("alike wide more", "no")

    def test_kin(self):
        self.say("kin one slow", "yes")
        self.say("kin slow one", "yes")
        self.say("kin one two", "no")
        self.say("kin big big", "yes")
        self.say("kin wide more", "no")

    def test_can(self):
        self.say("machine late 4: 0 a 1, 1 b 2, 1 c 3", "ok")
        self.say("machine early 5: 0 a 1, 0 a 2, 1 b 3, 2 c 4", "ok")
        self.say("can early late", "yes")
        self.say("can late early", "no")
        self.say("can one one", "yes")
        self.say("can one two", "no")

    def test_why(self):
        self.say("why one same", "none")
        self.say("why one one", "none")
        for one, other in product(["one", "two", "slow"], repeat=2):
            if one != other:
                scroll = read_scroll(self.desk.say("why " + one + " " + other))
                both = joined(read(TEXTS[one]), read(TEXTS[other]))
                held = truths(both, scroll)[-1]
                self.assertIn(0, held)
                self.assertNotIn(read(TEXTS[one])[0], held)

    def test_holds_and_eased(self):
        for sentence in ("yes", "no", "some a yes", "some b yes", "some * yes", "all a some b yes", "not some a some a yes",
                         "both some a yes all b no", "some * some a yes", "either some q yes some a some b yes"):
            for name in NAMES:
                m = read(TEXTS[name])
                scroll = read_sentence(sentence)
                self.say("holds " + name + " " + sentence, "yes" if 0 in true_states(m, scroll) else "no")
                wanted = "yes" if 0 in true_states(eased_by_words(m), scroll) else "no"
                self.say("eased " + name + " " + sentence, wanted)
        self.say("holds slow some a yes", "no")
        self.say("eased slow some a yes", "yes")

    def test_asking_changes_nothing(self):
        ahead = stand_by(self.desk, NAMES)
        rows = ["show one", "states one", "alike one two", "kin one slow", "can one two", "why one two", "holds one yes",
                "eased one some * yes"]
        first = [self.desk.say(row) for row in rows]
        self.assertEqual([self.desk.say(row) for row in rows], first)
        self.assertEqual(stand_by(self.desk, NAMES), ahead)

    def test_held_against_matching_steps(self):
        machines = [m for m in some_machines(40, 4) if len(m[1]) <= 10]
        for one, other in zip(machines, machines[1:] + [machines[3]]):
            self.say("machine x " + shown(one), "ok")
            self.say("machine y " + shown(other), "ok")
            self.say("alike x y", "yes" if begin_alike(one, other) else "no")
            self.say("kin x y", "yes" if begin_alike(eased(one), eased(other)) else "no")
            self.say("can x y", "yes" if begin_alike(one, other, False) else "no")
            self.assertEqual(self.desk.say("why x y") == "none", begin_alike(one, other))


class NoRows(DeskCase):
    def test_things_that_are_no_text(self):
        for thing in NO_TEXTS:
            self.refuse(NoRow, thing)

    def test_other_first_words(self):
        for word in ("", "Show", "SHOW", "shows", "sho", "one", "ok", "yes", "*", "0", "make", "machines", "lack", "tell"):
            for rest in ("", " one", " one two", " new one two"):
                self.refuse(NoRow, word + rest)
        self.refuse(NoRow, " show one")
        self.refuse(NoRow, "show\tone")
        self.refuse(NoRow, "show\none")

    def test_too_few_words(self):
        for row in ("machine", "machine new", "beside", "beside new", "beside new one", "hide", "hide new", "rename",
                    "rename new", "least", "least new", "drop", "show", "states", "alike", "alike one", "kin", "kin one",
                    "can", "can one", "why", "why one", "holds", "holds one", "eased", "eased one"):
            self.refuse(NoRow, row)

    def test_too_many_words(self):
        for row in ("least new one two", "least new one ", "drop one two", "drop one ", "show one two", "show one ",
                    "show  one", "states one one", "states one ", "alike one two two", "alike one two ", "alike one  two",
                    "kin one two one", "kin one two ", "can one two one", "can one two ", "why one two one", "why one two "):
            self.refuse(NoRow, row)

    def test_ahead_of_all_else(self):
        for row in ("show zz 1", "drop A ", "least 1 zz A", "alike zz zz zz", "can big big big", "why big big ", "hide A",
                    "beside A zz", "machine A"):
            self.refuse(NoRow, row)


class Blanks(DeskCase):
    def test_a_word_without_signs_is_no_name_and_no_deed(self):
        for row in ("drop ", "show ", "states ", "alike one ", "alike  one", "kin one ", "can one ", "why  one", "least new ",
                    "least  one", "machine  1:", "beside  one two", "beside new  two", "beside new one ", "beside new one  two",
                    "hide new ", "hide  one", "hide new  one", "rename new ", "rename  one", "holds  yes", "eased  yes"):
            self.refuse(NoName, row)
        for row in ("hide new one ", "hide new one  a", "hide new one a ", "beside new one two ", "beside new one two a  b",
                    "rename new one ", "rename new one a>b ", "rename new one  a>b"):
            self.refuse(NoDeed, row)
        for row in ("machine new ", "machine new  ", "machine new  1:", "machine new 1: ", "machine new 1:  0 a 0",
                    "holds one ", "holds one  yes", "holds one yes ", "holds one not  yes", "eased one ", "eased one  yes"):
            self.refuse(NoText, row)


class NoNames(DeskCase):
    def test_words_that_are_no_names(self):
        for word in NO_NAMES:
            for row in ("machine {} 1:", "beside {} one two", "hide {} one", "rename {} one", "least {} one",
                        "beside new {} two", "beside new one {}", "hide new {}", "rename new {}", "least new {}", "drop {}",
                        "show {}", "states {}", "alike {} one", "alike one {}", "kin {} one", "kin one {}", "can {} one",
                        "can one {}", "why {} one", "why one {}", "holds {} yes", "eased {} yes"):
                self.refuse(NoName, row.format(word))

    def test_names_by_which_no_machine_stands(self):
        for row in ("beside new zz two", "beside new one zz", "hide new zz", "rename new zz a>b", "least new zz", "drop zz",
                    "show zz", "states zz", "alike zz one", "alike one zz", "kin zz one", "kin one zz", "can zz one",
                    "can one zz", "why zz one", "why one zz", "holds zz yes", "eased zz yes", "hide zz zz", "least zz zz"):
            self.refuse(NoName, row)

    def test_on_an_empty_desk(self):
        assert_refused(self, NoName, Desk().say, "show a")
        assert_refused(self, NoName, Desk().say, "drop a")


class NoDeeds(DeskCase):
    def test_words_that_are_no_open_deeds(self):
        for word in NO_OPEN_DEEDS:
            for row in ("beside new one two {}", "beside new one two a {} b", "hide new one {}", "hide new one a {}",
                        "hide one one {} a", "hide new one q {} q"):
                self.refuse(NoDeed, row.format(word))

    def test_words_that_are_no_pairs(self):
        for word in NO_PAIRS:
            for row in ("rename new one {}", "rename new one a>b {}", "rename one one {} a>b", "rename new one a>b {} a>c"):
                self.refuse(NoDeed, row.format(word))


class Order(DeskCase):
    """Two faults in one row: the first from the left tells the refusal, and TooBig comes last."""

    def test_a_name_ahead_of_a_deed(self):
        for row in ("beside A one two *", "beside new zz two *", "beside new one zz *", "hide A one *", "hide new zz *",
                    "rename A one a", "rename new zz a>*", "rename abcdefghi one >"):
            self.refuse(NoName, row)

    def test_a_name_ahead_of_a_text_or_a_sentence(self):
        for row in ("machine A x", "machine A 0:", "machine A 21:", "machine  ", "machine abcdefghi 1: ", "holds zz x",
                    "holds A ", "eased zz not", "eased 1 yes yes"):
            self.refuse(NoName, row)

    def test_a_name_ahead_of_too_big(self):
        for row in ("beside A big big", "beside A wide more", "can big zz", "can zz big", "why big zz", "why zz big"):
            self.refuse(NoName, row)

    def test_a_deed_ahead_of_too_big(self):
        for row in ("beside new big big *", "beside new wide more a A", "beside big big big a "):
            self.refuse(NoDeed, row)

    def test_a_text_as_it_is_read(self):
        for text, refusal in [
            ("x", NoText), ("1", NoText), ("1:0 a 0", NoText), ("3: 0 A 1", NoText), ("21: 0 a", NoText), ("0: 0 A 0", NoText),
            ("0:", NoMachine), ("1: 0 a 1", NoMachine), ("21: 0 a 21", NoMachine), ("21:", TooBig),
            ("1: 0 a 0, 0 b 0, 0 c 0, 0 d 0, 0 e 0, 0 f 0, 0 g 0", TooBig),
        ]:
            self.refuse(refusal, "machine new " + text)
            self.refuse(refusal, "machine one " + text)

    def test_a_sentence_as_it_is_read(self):
        for sentence in ("x", "yes yes", "not", "some A yes", "both yes", "and", "some a", "not " * 200 + "yes"):
            self.refuse(NoText, "holds one " + sentence)
            self.refuse(NoText, "eased one " + sentence)
        self.say("holds one " + "not " * 199 + "no", "yes")

    def test_too_big(self):
        for row in ("beside new big two", "beside new two big", "beside big big big", "beside new wide more",
                    "beside one wide more a", "can big one", "can one big", "can wide more", "why big one", "why one big",
                    "why wide more"):
            self.refuse(TooBig, row)
        # Eight open deeds, of which two are done by one of them alone and so are gone.
        self.say("beside new wide more a b", "ok")

    def test_why_of_two_that_begin_alike_is_too_big_too(self):
        self.refuse(TooBig, "why big big")
        self.refuse(TooBig, "can big big")
        self.say("alike big big", "yes")
        self.say("machine x 10:", "ok")
        self.say("machine new 11:", "ok")
        self.say("why x x", "none")
        self.say("can x x", "yes")
        self.refuse(TooBig, "why x new")
        self.refuse(TooBig, "can x new")
        self.say("alike x new", "yes")
        self.say("kin x new", "yes")

    def test_more_steps_than_can_be_joined(self):
        steps = [(k, "a", to) for k in range(10) for to in range(4)]
        self.say("machine x " + shown(made(10, steps)), "ok")
        self.say("machine new " + shown(made(10, steps + [(9, "a", 9)])), "ok")
        self.say("why x x", "none")
        self.refuse(TooBig, "why x new")
        self.refuse(TooBig, "can new x")

    def test_each_refusal_is_a_kin_error(self):
        for row in ("", "show zz", "hide new one *", "machine new x", "machine new 0:", "machine new 21:", "holds one x"):
            with self.assertRaises(KinError):
                self.desk.say(row)


class AskersOwn(unittest.TestCase):
    """[2] of the desk; of [3]: two desks told the same rows answer alike."""

    ROWS = [
        "machine one 3: 0 a 1, 1 b 2", "machine two 3: 0 * 1, 1 a 2, 2 b 0", "alike one two", "kin one two", "can one two",
        "why one two", "beside both one two a", "show both", "show none", "hide both both b", "least low both", "show low",
        "rename two low a>c c>a", "states two", "holds two some c yes", "eased two some c some * yes", "drop one", "show one",
        "why low both", "machine one 21:", "machine one 1: ", "nothing", "why two low", "can low two",
    ]

    def answers(self, desk):
        found = []
        for row in self.ROWS:
            try:
                found.append(desk.say(row))
            except KinError as refusal:
                found.append(type(refusal))
        return found

    def test_two_desks_told_the_same_rows(self):
        first = self.answers(Desk())
        self.assertEqual(first, self.answers(Desk()))
        self.assertIn(NoName, first)
        self.assertIn(NoText, first)

    def test_two_desks_do_not_share_machines(self):
        one, other = Desk(), Desk()
        one.say("machine a 1:")
        assert_refused(self, NoName, other.say, "show a")
        other.say("machine a 2:")
        self.assertEqual(one.say("show a"), "1:")
        other.say("drop a")
        self.assertEqual(one.say("show a"), "1:")


if __name__ == "__main__":
    unittest.main()

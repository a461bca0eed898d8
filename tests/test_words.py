"""[19] sentences in words read to scrolls; [20] scrolls told in words."""

import unittest
from copy import deepcopy
from random import Random

from kinlook.errors import NoScroll, NoText, TooBig
from kinlook.scrolls import is_scroll
from kinlook.sentences import read_sentence, tell
from samples import NO_SCROLLS, YES, assert_refused, deep_of, small_machines, some_machines, some_scrolls, true_states

NO = ("or", ())
MACHINES = small_machines()[::11] + some_machines(15)
NO_TEXTS = [None, True, False, 0, 1, 1.5, b"yes", [], ["yes"], (), [("and", ())], {}, {"yes"}, object(), str]
DEEDS = ["*", "a", "b", "yes", "no", "not", "some", "all", "both", "either", "abcdef"]


def some_sentence(source, room):
    """A sentence as a tree: a tuple of its first word and what follows, of at most so many words."""
    if room < 2 or source.random() < 0.1:
        return (source.choice(["yes", "no"]),)
    if room < 3 or source.random() < 0.2:
        return ("not", some_sentence(source, room - 1))
    if source.random() < 0.5:
        return (source.choice(["some", "all"]), source.choice(DEEDS), some_sentence(source, room - 2))
    first = some_sentence(source, (room - 1) // 2)
    return (source.choice(["both", "either"]), first, some_sentence(source, (room - 1) // 2))


def text_of(tree):
    return " ".join(text_of(part) if isinstance(part, tuple) else part for part in tree)


def deep(tree):
    inner = max([deep(part) for part in tree if isinstance(part, tuple)] + [0])
    return inner + 1 if tree[0] in ("some", "all") else inner


def says(m, tree, state):
    """Whether the sentence holds at the state, by the words of [19] and [15]."""
    if tree[0] in ("yes", "no"):
        return tree[0] == "yes"
    if tree[0] == "not":
        return not says(m, tree[1], state)
    if tree[0] == "both":
        return says(m, tree[1], state) and says(m, tree[2], state)
    if tree[0] == "either":
        return says(m, tree[1], state) or says(m, tree[2], state)
    ends = [says(m, tree[2], end) for start, deed, end in m[1] if start == state and deed == tree[1]]
    return any(ends) if tree[0] == "some" else all(ends)


def words_told(rows, k):
    """The words of the row numbered k, by the words of [20]."""
    row = rows[k]
    if row[0] in ("some", "all"):
        return [row[0], row[1]] + words_told(rows, row[2])
    if row[0] == "not":
        return ["not"] + words_told(rows, row[1])
    if not row[1]:
        return ["yes" if row[0] == "and" else "no"]
    first = words_told(rows, row[1][0])
    if len(row[1]) == 1:
        return first
    others = rows[:k] + [(row[0], row[1][1:])]
    return ["both" if row[0] == "and" else "either"] + first + words_told(others, k)


def trees(count, room=30):
    source = Random(5)
    return [some_sentence(source, source.randint(1, room)) for turn in range(count)]


class ReadSentence(unittest.TestCase):
    def check(self, text, tree):
        scroll = read_sentence(text)
        self.assertIs(is_scroll(scroll), True)
        self.assertLessEqual(len(scroll), len(text.split(" ")))
        self.assertEqual(deep_of(scroll, len(scroll) - 1), deep(tree))
        for m in MACHINES[::3]:
            self.assertEqual(true_states(m, scroll), [state for state in range(m[0]) if says(m, tree, state)])
        self.assertEqual(tell(scroll), text)

    def test_each_word(self):
        yes, no = ("yes",), ("no",)
        can_a, can_b = ("some", "a", yes), ("some", "b", yes)
        for tree in [
            yes, no, ("not", yes), ("not", no), can_a, can_b, ("all", "a", no), ("all", "*", can_a), ("some", "*", yes),
            ("both", can_a, can_b), ("either", can_a, can_b), ("both", yes, no), ("either", yes, no), ("both", no, yes),
            ("either", no, no), ("not", ("both", can_a, ("not", can_b))), ("some", "a", ("all", "b", ("some", "a", no))),
            ("both", ("either", can_a, no), ("either", yes, can_b)), ("either", ("both", can_a, no), can_b),
            ("both", can_a, ("both", can_b, yes)), ("both", ("both", can_a, can_b), yes),
        ]:
            with self.subTest(tree=tree):
                self.check(text_of(tree), tree)

    def test_deeds_that_are_words(self):
        for deed in DEEDS:
            for other in DEEDS:
                tree = ("some", deed, ("all", other, ("yes",)))
                self.check("some " + deed + " all " + other + " yes", tree)
        m = (2, [(0, "some", 1), (1, "yes", 0)])
        self.assertEqual(true_states(m, read_sentence("some some yes")), [0])
        self.assertEqual(true_states(m, read_sentence("some yes yes")), [1])
        self.assertEqual(true_states(m, read_sentence("some some some yes yes")), [0])
        self.assertEqual(true_states(m, read_sentence("all all no")), [0, 1])

    def test_some_of_many(self):
        for tree in trees(300):
            self.check(text_of(tree), tree)

    def test_the_depth_counts_what_stands_within_one_another(self):
        text = "both some a all b yes either some a yes all some some all all c no"
        scroll = read_sentence(text)
        self.assertEqual(deep_of(scroll, len(scroll) - 1), 3)

    def test_two_hundred_words_and_one_more(self):
        for text in (
            "not " * 199 + "yes", "some a " * 99 + "not no", "both yes " * 99 + "not no", "either " * 99 + "yes " * 99 + "not no",
        ):
            self.assertEqual(len(text.split(" ")), 200)
            scroll = read_sentence(text)
            self.assertIs(is_scroll(scroll), True)
            self.assertLessEqual(len(scroll), 200)
            self.assertEqual(tell(scroll), text)
            assert_refused(self, NoText, read_sentence, "not " + text)
            assert_refused(self, NoText, read_sentence, "some a " + text)
        self.assertEqual(read_sentence("not " * 199 + "yes")[-1][0], "not")
        assert_refused(self, NoText, read_sentence, "not " * 200 + "yes")
        assert_refused(self, NoText, read_sentence, "some a " * 100 + "yes")
        assert_refused(self, NoText, read_sentence, "not " * 3000 + "yes")


class NoSentences(unittest.TestCase):
    def refuse(self, texts):
        for text in texts:
            with self.subTest(text=text):
                assert_refused(self, NoText, read_sentence, text)

    def test_things_that_are_no_text(self):
        self.refuse(NO_TEXTS)

    def test_blanks(self):
        self.refuse(["", " ", "  ", " yes", "yes ", "not  yes", "not yes ", "both yes  no", "some  a yes", "some a  yes"])
        self.refuse(["yes\n", "not\tyes", "not\nyes"])

    def test_too_few_words(self):
        self.refuse(["not", "some", "all", "some a", "all a", "both", "both yes", "either", "either no", "not not"])
        self.refuse(["some a not", "some a some", "some a some b", "both yes not", "both both yes no", "all some", "some all yes some"])
        self.refuse(["both some a yes", "either not yes", "not both yes", "some yes", "all no"])

    def test_too_many_words(self):
        self.refuse(["yes yes", "yes no", "not yes no", "some a yes yes", "both yes no yes", "some a b yes", "yes not"])
        self.refuse(["yes not yes", "both yes no no no", "some some yes yes", "yes both", "no some", "yes some a"])

    def test_other_words(self):
        self.refuse(["Yes", "YES", "true", "and", "or", "a", "*", "0", "yes.", "(yes)", "not and", "both yes a", "both a yes"])
        self.refuse(["some A yes", "some abcdefg yes", "some 0 yes", "some ** yes", "all a1 yes", "all _ no", "nor yes no"])

    def test_a_word_more_or_less_at_any_place(self):
        """A sentence with a word taken out, put in or changed is read just where it is one."""
        words = "both some yes not no either all * yes some a no".split(" ")
        for place in range(len(words) + 1):
            near = [words[:place] + words[place + 1:]]
            for word in ["yes", "no", "not", "some", "all", "both", "either", "a", "*", "A", ""]:
                near.append(words[:place] + [word] + words[place:])
                near.append(words[:place] + [word] + words[place + 1:])
            for changed in near:
                end = self.end_of(changed, 0)
                if end == len(changed):
                    self.assertEqual(tell(read_sentence(" ".join(changed))), " ".join(changed))
                else:
                    assert_refused(self, NoText, read_sentence, " ".join(changed))

    def end_of(self, words, place):
        """Where the sentence that begins at the place ends, or a number too great where there is none."""
        none = len(words) + 10
        if place >= len(words):
            return none
        word = words[place]
        if word in ("yes", "no"):
            return place + 1
        if word == "not":
            return self.end_of(words, place + 1)
        if word in ("both", "either"):
            return self.end_of(words, self.end_of(words, place + 1))
        if word in ("some", "all") and place + 1 < len(words) and words[place + 1] not in ("A", ""):
            return self.end_of(words, place + 2)
        return none


class Tell(unittest.TestCase):
    def test_and_and_or_with_none_one_and_more_parts(self):
        rows = [YES, NO, ("some", "a", 0), ("not", 2)]
        for word, alone, joint in (("and", "yes", "both"), ("or", "no", "either")):
            self.assertEqual(tell(rows + [(word, ())]), alone)
            self.assertEqual(tell(rows + [(word, (2,))]), "some a yes")
            self.assertEqual(tell(rows + [(word, (0,))]), "yes")
            self.assertEqual(tell(rows + [(word, (0, 1))]), joint + " yes no")
            self.assertEqual(tell(rows + [(word, (2, 3))]), joint + " some a yes not some a yes")
            self.assertEqual(tell(rows + [(word, (3, 0, 1))]), joint + " not some a yes " + joint + " yes no")
            self.assertEqual(tell(rows + [(word, (0, 0, 1, 1))]), (joint + " yes ") * 2 + joint + " no no")

    def test_some_all_and_not(self):
        self.assertEqual(tell([YES, ("some", "*", 0)]), "some * yes")
        self.assertEqual(tell([NO, ("all", "all", 0), ("not", 1)]), "not all all no")

    def test_by_the_words(self):
        told = 0
        for scroll in some_scrolls(400):
            wanted = words_told(scroll, len(scroll) - 1)
            if len(wanted) > 200:
                assert_refused(self, TooBig, tell, scroll)
            else:
                told += 1
                self.assertEqual(tell(scroll), " ".join(wanted))
                self.assertEqual(tell(read_sentence(tell(scroll))), tell(scroll))
        self.assertGreater(told, 300)

    def test_two_hundred_words_and_one_more(self):
        chain = [YES]
        while len(chain) < 200:
            chain.append(("not", len(chain) - 1))
        self.assertEqual(tell(chain), "not " * 199 + "yes")
        assert_refused(self, TooBig, tell, chain[:199] + [("and", (198, 0))])
        self.assertEqual(tell(chain[:198] + [("and", (197, 0))]), "both " + "not " * 197 + "yes yes")
        self.assertEqual(len(tell([YES, ("or", (0,) * 100)]).split(" ")), 199)
        assert_refused(self, TooBig, tell, [YES, ("or", (0,) * 101)])
        self.assertEqual(tell([YES, ("not", 0), ("or", (0,) * 99 + (1,))]), "either yes " * 99 + "not yes")
        assert_refused(self, TooBig, tell, [YES, ("not", 0), ("or", (0,) * 98 + (1, 1, 1))])
        half = [YES] + [("some", "a", k) for k in range(49)]
        self.assertEqual(len(tell(half).split(" ")), 99)
        self.assertEqual(len(tell(half + [("and", (49, 49))]).split(" ")), 199)
        self.assertEqual(len(tell(half + [("and", (49, 49)), ("not", 50)]).split(" ")), 200)
        assert_refused(self, TooBig, tell, half + [("and", (49, 49)), ("some", "a", 50)])
        assert_refused(self, TooBig, tell, half + [("and", (49, 49)), ("all", "a", 50)])

    def test_rows_that_nothing_reads_do_not_count(self):
        doubled = [YES]
        while len(doubled) < 198:
            doubled.append(("and", (len(doubled) - 1,) * 2))
        assert_refused(self, TooBig, tell, doubled)
        self.assertEqual(tell(doubled + [("not", 0)]), "not yes")
        self.assertEqual(tell(doubled + [("or", ())]), "no")
        wide = [YES, ("and", (0,) * 200)]
        while len(wide) < 198:
            wide.append(("and", (len(wide) - 1,) * 200))
        assert_refused(self, TooBig, tell, wide)
        self.assertEqual(tell(wide + [("and", (0, 0))]), "both yes yes")

    def test_whatever_is_no_scroll_ahead_of_too_big(self):
        for thing in NO_SCROLLS:
            with self.subTest(thing=str(thing)[:80]):
                assert_refused(self, NoScroll, tell, thing)
        assert_refused(self, NoScroll, tell, [YES, ("or", (0,) * 150), ("not", 2)])


class AskersOwn(unittest.TestCase):
    """[2] of sentences in words."""

    def test_the_scroll_told_stays(self):
        scroll = [YES, ("some", "a", 0), ("and", (1, 0, 1))]
        kept = deepcopy(scroll)
        told = tell(scroll)
        self.assertEqual(scroll, kept)
        scroll.clear()
        self.assertEqual(told, "both some a yes both yes some a yes")
        self.assertEqual(tell(kept), told)

    def test_what_is_read_is_the_askers_own(self):
        text = "both some a yes not no"
        first = read_sentence(text)
        kept = deepcopy(first)
        first.clear()
        self.assertEqual(read_sentence(text), kept)


if __name__ == "__main__":
    unittest.main()

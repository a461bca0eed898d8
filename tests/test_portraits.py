"""[25] portraits, and what is refused: NoState, then NoDeed, then TooBig."""

import unittest
from copy import deepcopy

from kinlook.errors import NoDeed, NoState, TooBig
from kinlook.portraits import portrait_of
from kinlook.scrolls import depth_of, is_scroll
from samples import (
    assert_refused, chain, large_machines, line_machines, put_as_one, ranks_by_words, small_machines, some_machines,
    truths,
)

M = (3, [(0, "*", 1), (0, "a", 2), (2, "a", 0)])
SEVEN = ["*", "a", "b", "c", "d", "e", "f"]


class PortraitOf(unittest.TestCase):
    def check(self, m, state, deeds, k, others):
        scroll = portrait_of(m, state, deeds, k)
        self.assertIs(is_scroll(scroll), True)
        self.assertLessEqual(depth_of(scroll), k)
        for other in others:
            ranks = ranks_by_words(put_as_one(m, other), k)
            wanted = {place for place in range(other[0]) if ranks[m[0] + place] == ranks[state]}
            self.assertEqual(truths(other, scroll)[-1], wanted)

    def test_round_nought_holds_everywhere(self):
        for deeds in ([], ["a"], ["*", "b"]):
            self.check((2, []), 1, deeds, 0, small_machines()[::30])

    def test_small_machines_held_against_others(self):
        machines = small_machines()
        for m in machines[::13]:
            for k in range(5):
                for state in range(m[0]):
                    self.check(m, state, ["a", "*"], k, machines[::7] + [m])

    def test_chains_and_rings(self):
        others = line_machines()[::5] + [chain(many) for many in range(1, 8)] + [chain(30)]
        others.extend((many, [(k, "a", (k + 1) % many) for k in range(many)]) for many in (1, 2, 3))
        for m in (chain(5), chain(20), (1, [(0, "a", 0)]), (3, [(0, "a", 1), (0, "a", 2), (1, "a", 1)])):
            for k in range(5):
                for state in range(0, m[0], 2):
                    self.check(m, state, ["a"], k, others)

    def test_machines_with_three_deeds(self):
        machines = some_machines(40, 5)
        for m in machines[:20]:
            for k in range(5):
                self.check(m, m[0] - 1, ["*", "a", "b"], k, machines[::2] + [m])

    def test_machines_of_up_to_eighty_steps(self):
        machines = [m for m in large_machines() if len(m[1]) <= 80]
        self.assertIn(80, [len(m[1]) for m in machines])
        for m in machines:
            for k in range(5):
                for state in (0, 11, 19):
                    self.check(m, state, SEVEN, k, machines)

    def test_deeds_told_twice(self):
        self.check(M, 0, ["a", "*", "a", "a", "*"], 2, small_machines()[::9] + [M])
        self.check(M, 0, SEVEN * 400, 2, some_machines(10) + [M])

    def test_deeds_that_no_step_has(self):
        # A deed of the list that the machine lacks: states that can do it are other ones.
        others = some_machines(30) + [(1, [(0, "b", 0)]), (2, [(0, "b", 1)]), (1, [])]
        for k in range(5):
            self.check((1, []), 0, ["a", "*", "b"], k, others)
            self.check((2, [(0, "a", 1), (1, "a", 1)]), 0, ["b", "a", "*"], k, others)
            self.check((1, []), 0, [], k, [(1, []), (5, [])])

    def test_six_open_deeds_and_the_hidden_one(self):
        self.assertIs(is_scroll(portrait_of(M, 0, SEVEN, 4)), True)
        self.check((1, []), 0, SEVEN, 1, [(2, [(0, deed, 1)]) for deed in SEVEN])


class Refused(unittest.TestCase):
    NO_DEEDS = ["", "abcdefg", "A", "a1", "**", "a ", " ", "0"]

    def test_states(self):
        for state in (-1, -3, 3, 4, 10 ** 50):
            assert_refused(self, NoState, portrait_of, M, state, ["*", "a"], 1)
        self.assertIs(is_scroll(portrait_of(M, 2, ["*", "a"], 1)), True)

    def test_words_that_are_no_deeds_at_whatever_place(self):
        for word in self.NO_DEEDS:
            for deeds in ([word, "*", "a"], ["*", word, "a"], ["*", "a", word], ["*", "a", word, word]):
                for k in (0, 1, 4):
                    assert_refused(self, NoDeed, portrait_of, M, 0, deeds, k)

    def test_a_list_that_lacks_a_deed_of_the_machine(self):
        for deeds in ([], ["a"], ["*"], ["b", "a"], ["*", "b"]):
            for k in (0, 1, 4):
                assert_refused(self, NoDeed, portrait_of, M, 0, deeds, k)
        # Also where only a state that is not met has it.
        assert_refused(self, NoDeed, portrait_of, (2, [(1, "b", 1)]), 0, ["a"], 2)

    def test_six_and_seven_open_deeds(self):
        self.assertIs(is_scroll(portrait_of(M, 0, SEVEN, 2)), True)
        for k in (0, 2):
            assert_refused(self, TooBig, portrait_of, M, 0, SEVEN + ["g"], k)
            assert_refused(self, TooBig, portrait_of, (1, []), 0, ["a", "b", "c", "d", "e", "f", "g"], k)

    def test_other_rounds(self):
        for k in (-1, -2, 5, 6, 10 ** 50, -(10 ** 50)):
            assert_refused(self, TooBig, portrait_of, M, 0, ["*", "a"], k)

    def test_the_order_of_the_refusals(self):
        for state in (-1, 3):
            for deeds in (["*", "a"], ["A"], [], SEVEN + ["g"]):
                for k in (-1, 2, 5):
                    assert_refused(self, NoState, portrait_of, M, state, deeds, k)
        for deeds in (["*", "a", "A"], ["a"], SEVEN + ["g", "G"], ["a", "b", "c", "d", "e", "f", "g"]):
            for k in (-1, 2, 5):
                assert_refused(self, NoDeed, portrait_of, M, 0, deeds, k)


class AskersOwn(unittest.TestCase):
    """[2] of portraits."""

    def test_what_is_handed_in_stays_and_so_does_what_is_told(self):
        for k in range(5):
            m = deepcopy(M)
            deeds = ["b", "*", "a", "b"]
            told = portrait_of(m, 0, deeds, k)
            kept = deepcopy(told)
            self.assertEqual((m, deeds), (M, ["b", "*", "a", "b"]))
            self.assertEqual(portrait_of(deepcopy(m), 0, list(deeds), k), told)
            m[1].clear()
            deeds.clear()
            self.assertEqual(told, kept)

    def test_what_was_told_ahead_may_be_changed(self):
        told = portrait_of(M, 0, ["*", "a"], 3)
        kept = deepcopy(told)
        told.clear()
        self.assertEqual(portrait_of(M, 0, ["*", "a"], 3), kept)


if __name__ == "__main__":
    unittest.main()

"""[24] the round in which two states part, and their parting; of [3]: no sentence of less depth parts them."""

import unittest
from copy import deepcopy
from itertools import product

from kinlook.errors import NoState
from kinlook.partings import parted_at, parting_of
from kinlook.scrolls import held_at
from samples import (
    assert_parts, assert_refused, chain, full_machine, large_machines, line_machines, matched_pairs, ranks_by_words,
    sets_told, small_machines, some_machines, truths,
)


class PartedAt(unittest.TestCase):
    def test_ordinary_ones(self):
        m = (4, [(0, "a", 1), (1, "a", 2), (2, "a", 3)])
        self.assertEqual([parted_at(m, 0, q) for q in range(4)], [None, 3, 2, 1])
        self.assertEqual([parted_at(m, q, 1) for q in range(4)], [3, None, 2, 1])

    def test_as_late_as_can_be(self):
        self.assertEqual(parted_at(chain(20), 0, 1), 19)
        self.assertEqual(parted_at(chain(20), 19, 18), 1)
        for p in range(20):
            for q in range(20):
                self.assertEqual(parted_at(chain(20), p, q), None if p == q else 20 - max(p, q))

    def test_by_turns_of_matching(self):
        for m in small_machines()[::3] + line_machines()[::7] + some_machines(30, 5):
            turns = [matched_pairs(m, True, turn) for turn in range(m[0] + 1)]
            for p in range(m[0]):
                for q in range(m[0]):
                    apart = [turn for turn, pairs in enumerate(turns) if (p, q) not in pairs]
                    self.assertEqual(parted_at(m, p, q), apart[0] if apart else None)

    def test_no_scroll_of_less_depth_parts_them(self):
        machines = [m for m in line_machines() if max(ranks_by_words(m, 3)) == 2]
        for m in machines[::3] + small_machines()[::9]:
            for p, q in product(range(m[0]), repeat=2):
                turn = parted_at(m, p, q)
                if turn is not None:
                    self.assertFalse(any((p in one) != (q in one) for one in sets_told(m, turn - 1, True)))
                    self.assertTrue(any(p in one and q not in one for one in sets_told(m, turn, True)))

    def test_states(self):
        for m in ((1, []), (3, [(0, "a", 1)]), (20, [])):
            for state in (-1, -m[0], m[0], 10 ** 50):
                for call in (parted_at, parting_of):
                    assert_refused(self, NoState, call, m, state, 0)
                    assert_refused(self, NoState, call, m, 0, state)
                    assert_refused(self, NoState, call, m, state, state)


class PartingOf(unittest.TestCase):
    def check(self, m, p, q):
        turn = parted_at(m, p, q)
        scroll = parting_of(m, p, q)
        if turn is None:
            self.assertIsNone(scroll)
            return 0
        assert_parts(self, m, scroll, (p, q), turn)
        self.assertEqual(held_at(m, scroll), [sorted(states) for states in truths(m, scroll)])
        return turn

    def test_ordinary_ones(self):
        m = (4, [(0, "a", 1), (1, "b", 2), (3, "a", 2)])
        self.assertEqual([self.check(m, 0, q) for q in range(4)], [0, 1, 1, 2])
        self.assertEqual([self.check(m, 3, q) for q in range(4)], [2, 1, 1, 0])
        self.assertIsNone(parting_of(m, 2, 2))
        self.assertIsNone(parting_of((20, []), 3, 19))

    def test_a_step_of_the_first_or_of_the_second(self):
        # 0 has all steps of 1 and one more, so only "all" or "not" tell 1 from 0.
        m = (3, [(0, "a", 2), (0, "b", 2), (1, "a", 2)])
        self.check(m, 0, 1)
        self.check(m, 1, 0)
        m = (4, [(0, "a", 2), (0, "a", 3), (1, "a", 2), (2, "b", 3)])
        self.check(m, 0, 1)
        self.check(m, 1, 0)

    def test_the_choice_made_early_or_late(self):
        m = (9, [(0, "a", 1), (1, "b", 2), (1, "c", 3), (4, "a", 5), (4, "a", 6), (5, "b", 7), (6, "c", 8)])
        self.assertEqual([self.check(m, 0, 4), self.check(m, 4, 0)], [2, 2])

    def test_small_machines(self):
        for m in small_machines() + line_machines()[::2] + some_machines(60, 6):
            for p, q in product(range(m[0]), repeat=2):
                self.check(m, p, q)

    def test_as_late_as_can_be(self):
        self.assertEqual(self.check(chain(20), 0, 1), 19)
        self.assertEqual(self.check(chain(20), 1, 0), 19)

    def test_machines_of_many_states_and_steps(self):
        deepest = 0
        for m in large_machines():
            for p, q in product(range(20), range(0, 20, 3)):
                deepest = max(deepest, self.check(m, p, q))
        self.assertEqual(deepest, 19)

    def test_machines_whose_states_are_all_alike(self):
        self.assertIsNone(parting_of(full_machine(20, ["*", "a", "b"]), 0, 19))


class AskersOwn(unittest.TestCase):
    """[2] of partings."""

    def test_what_is_handed_in_stays_and_so_does_what_is_told(self):
        for call in (parted_at, parting_of):
            for p, q in [(0, 1), (1, 0), (0, 2), (1, 1)]:
                m = (3, [(0, "a", 1), (1, "a", 2), (2, "*", 2)])
                told = call(m, p, q)
                kept = deepcopy(told)
                self.assertEqual(m, (3, [(0, "a", 1), (1, "a", 2), (2, "*", 2)]))
                self.assertEqual(call(deepcopy(m), p, q), told)
                m[1].clear()
                self.assertEqual(told, kept)

    def test_what_was_told_ahead_may_be_changed(self):
        told = parting_of(chain(4), 0, 1)
        kept = deepcopy(told)
        told.clear()
        self.assertEqual(parting_of(chain(4), 0, 1), kept)


if __name__ == "__main__":
    unittest.main()

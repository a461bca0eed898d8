"""[23] tables; [7] of them; of [3]: two states that are told alike come with a table."""

import unittest
from copy import deepcopy
from itertools import product

from kinlook.errors import NoState
from kinlook.kinds import alike
from kinlook.tables import is_table, table_of
from samples import (
    assert_refused, assert_table, full_machine, large_machines, line_machines, matched_pairs, matches, small_machines,
    some_machines,
)

# 0 and 3 go round with a and b; 1 and 4 are their other halves, 2 stands still.
M = (5, [(0, "a", 1), (1, "b", 0), (3, "a", 4), (4, "b", 3)])
WRONG_STATES = (-1, -5, 5, 6, 10 ** 50)


class IsTable(unittest.TestCase):
    def test_ordinary_ones(self):
        self.assertIs(is_table(M, [(0, 3), (1, 4)]), True)
        self.assertIs(is_table(M, [(2, 2)]), True)
        self.assertIs(is_table(M, [(0, 0), (1, 1), (2, 2), (3, 3), (4, 4)]), True)
        self.assertIs(is_table(M, [(0, 1)]), False)
        self.assertIs(is_table(M, [(0, 2)]), False)
        self.assertIs(is_table(M, [(2, 0)]), False)

    def test_no_pairs(self):
        for m in ((1, []), M, full_machine(20, ["a"])):
            self.assertIs(is_table(m, []), True)

    def test_one_pair_lacking_or_too_many(self):
        pairs = [(0, 3), (1, 4), (3, 0), (4, 1), (2, 2)]
        self.assertIs(is_table(M, pairs), True)
        for place in range(4):
            self.assertIs(is_table(M, pairs[:place] + pairs[place + 1:]), False)
        self.assertIs(is_table(M, pairs[:4]), True)
        for pair in [(0, 4), (1, 3), (2, 3), (3, 2), (0, 1)]:
            self.assertIs(is_table(M, pairs + [pair]), False)
            self.assertIs(is_table(M, [pair] + pairs), False)

    def test_whatever_order_and_twice(self):
        self.assertIs(is_table(M, [(1, 4), (0, 3), (1, 4)]), True)
        self.assertIs(is_table(M, [(1, 4), (1, 4)]), False)
        self.assertIs(is_table(M, [(0, 3), (1, 4)] * 1500), True)

    def test_pairs_are_not_turned_about(self):
        # (4, 1) is not in the list where (1, 4) is.
        self.assertIs(is_table(M, [(0, 3), (4, 1)]), False)

    def test_each_step_of_the_one_and_of_the_other(self):
        m = (4, [(0, "a", 2), (1, "a", 2), (1, "a", 3), (3, "b", 3)])
        self.assertIs(is_table(m, [(0, 1), (2, 2)]), False)
        self.assertIs(is_table(m, [(1, 0), (2, 2)]), False)
        self.assertIs(is_table(m, [(0, 1), (2, 2), (2, 3)]), False)
        m = (4, [(0, "a", 2), (1, "a", 2), (1, "a", 3)])
        self.assertIs(is_table(m, [(0, 1), (2, 2)]), False)
        self.assertIs(is_table(m, [(1, 0), (2, 2)]), False)
        self.assertIs(is_table(m, [(0, 1), (2, 2), (2, 3)]), True)
        self.assertIs(is_table(m, [(1, 0), (2, 2), (3, 2)]), True)
        self.assertIs(is_table(m, [(1, 0), (2, 2), (2, 3)]), False)

    def test_the_deed_counts(self):
        self.assertIs(is_table((2, [(0, "a", 0), (1, "b", 1)]), [(0, 1)]), False)
        self.assertIs(is_table((2, [(0, "*", 0), (1, "a", 1)]), [(0, 1)]), False)
        self.assertIs(is_table((2, [(0, "a", 0), (1, "a", 1)]), [(0, 1)]), True)

    def test_all_lists_of_pairs_of_small_machines(self):
        for m in small_machines()[::5]:
            every = list(product(range(m[0]), repeat=2))
            for picks in product([False, True], repeat=len(every)):
                pairs = [pair for pair, pick in zip(every, picks) if pick]
                wanted = all(matches(m, pairs, p, q, True) for p, q in pairs)
                self.assertIs(is_table(m, pairs[::-1]), wanted)

    def test_all_pairs_of_a_table_are_alike(self):
        for m in line_machines()[::17]:
            every = list(product(range(3), repeat=2))
            for picks in product([False, True], repeat=9):
                pairs = [pair for pair, pick in zip(every, picks) if pick]
                if is_table(m, pairs):
                    for p, q in pairs:
                        self.assertIs(alike(m, p, q), True)


class TableOf(unittest.TestCase):
    def check(self, m, p, q, wanted):
        told = table_of(m, p, q)
        if not wanted:
            self.assertIsNone(told)
            return
        assert_table(self, m, told, (p, q), True)
        self.assertIs(is_table(m, told), True)

    def test_two_that_are_alike(self):
        self.check(M, 0, 3, True)
        self.check(M, 3, 0, True)
        self.check(M, 2, 2, True)
        self.check((1, []), 0, 0, True)
        self.check((20, []), 0, 19, True)

    def test_two_that_are_unlike(self):
        for p, q in [(0, 1), (1, 0), (0, 2), (0, 4), (2, 3)]:
            self.assertIsNone(table_of(M, p, q))

    def test_small_machines(self):
        for m in small_machines()[::2] + line_machines()[::5] + some_machines(30, 6):
            pairs = matched_pairs(m, True)
            for p in range(m[0]):
                for q in range(m[0]):
                    self.check(m, p, q, (p, q) in pairs)

    def test_machines_of_many_states_and_steps(self):
        for m in large_machines():
            for p, q in [(0, 0), (0, 19), (3, 4), (19, 18)]:
                self.check(m, p, q, alike(m, p, q))
        self.check(full_machine(20, ["*", "a"]), 4, 17, True)


class NoStates(unittest.TestCase):
    def test_in_any_pair_on_either_side(self):
        good = [(0, 3), (1, 4)]
        for state in WRONG_STATES:
            for pair in ((state, 0), (0, state), (state, state)):
                for place in range(3):
                    assert_refused(self, NoState, is_table, M, good[:place] + [pair] + good[place:])

    def test_ahead_of_all_else(self):
        # The first pairs are no table already; the state is refused all the same.
        for state in WRONG_STATES:
            assert_refused(self, NoState, is_table, M, [(0, 1), (0, 2), (2, state)])
            assert_refused(self, NoState, is_table, M, [(0, 1), (state, 2)])

    def test_of_table_of(self):
        for state in WRONG_STATES:
            assert_refused(self, NoState, table_of, M, state, 0)
            assert_refused(self, NoState, table_of, M, 0, state)
            assert_refused(self, NoState, table_of, M, state, state)

    def test_just_below_many(self):
        self.assertIs(is_table(M, [(4, 4), (3, 3)]), True)
        assert_refused(self, NoState, is_table, (1, []), [(0, 1)])
        assert_refused(self, NoState, is_table, (1, []), [(1, 0)])


class AskersOwn(unittest.TestCase):
    """[2] of tables."""

    def test_what_is_handed_in_stays(self):
        m = deepcopy(M)
        pairs = [(1, 4), (0, 3), (1, 4)]
        is_table(m, pairs)
        table_of(m, 0, 3)
        self.assertEqual((m, pairs), (M, [(1, 4), (0, 3), (1, 4)]))

    def test_what_was_told_stays_and_may_be_changed(self):
        m = deepcopy(M)
        told = table_of(m, 0, 3)
        kept = list(told)
        m[1].clear()
        self.assertEqual(told, kept)
        told.clear()
        self.assertEqual(table_of(M, 0, 3), kept)


if __name__ == "__main__":
    unittest.main()

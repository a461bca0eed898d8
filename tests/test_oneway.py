"""[31] one-way tables; [32] rounds of following and lacks; [7] of them."""

import unittest
from copy import deepcopy
from itertools import product

from kinlook.errors import NoState
from kinlook.oneway import can, is_one_way, lack_of, missed_at, one_way_of
from samples import (
    assert_parts, assert_refused, assert_table, chain, eased_by_words, full_machine, large_machines, line_machines,
    matched_pairs, matches, sets_told, small_machines, some_machines,
)

# 0: a, then b or c; 3: a and b, or a and c.
M = (6, [(0, "a", 1), (1, "b", 2), (1, "c", 2), (3, "a", 4), (3, "a", 5), (4, "b", 2), (5, "c", 2)])
WRONG_STATES = (-1, -6, 6, 7, 10 ** 50)


def rings():
    """Two rings of 9 and of 10 states that come to the one place where they differ only after many rounds."""
    steps = [(k, "a", (k + 1) % 9) for k in range(9)] + [(9 + k, "a", 9 + (k + 1) % 10) for k in range(10)]
    steps += [(0, "b", 19)] + [(9 + k, "b", 19) for k in range(10) if k != 5]
    return (20, sorted(steps))


class Can(unittest.TestCase):
    def test_ordinary_ones(self):
        self.assertIs(can(M, 3, 0), True)
        self.assertIs(can(M, 0, 3), False)
        self.assertIs(can(M, 2, 0), True)
        self.assertIs(can(M, 0, 2), False)
        self.assertIs(can(M, 4, 1), True)
        self.assertIs(can(M, 1, 4), False)

    def test_each_way_and_not_alike(self):
        m = (4, [(0, "a", 1), (0, "a", 2), (1, "b", 2), (3, "a", 1)])
        self.assertIs(can(m, 0, 3), True)
        self.assertIs(can(m, 3, 0), True)

    def test_itself(self):
        for m in large_machines() + [rings(), M]:
            for state in range(0, m[0], 3):
                self.assertIs(can(m, state, state), True)

    def test_by_matching_steps(self):
        for m in small_machines()[::2] + line_machines()[::5] + some_machines(40, 6):
            pairs = matched_pairs(m, False)
            for p, q in product(range(m[0]), repeat=2):
                self.assertIs(can(m, p, q), (p, q) in pairs)

    def test_machines_of_many_states_and_steps(self):
        for m in large_machines():
            pairs = matched_pairs(m, False)
            for p in range(0, 20, 2):
                self.assertIs(can(m, p, 6), (p, 6) in pairs)
                self.assertIs(can(m, 6, p), (6, p) in pairs)
        self.assertIs(can(full_machine(20, ["a"]), 3, 19), True)


class IsOneWay(unittest.TestCase):
    def test_ordinary_ones(self):
        self.assertIs(is_one_way(M, [(3, 0), (4, 1), (5, 1), (2, 2)]), True)
        self.assertIs(is_one_way(M, [(2, 0)]), True)
        self.assertIs(is_one_way(M, [(0, 2)]), False)
        self.assertIs(is_one_way(M, [(0, 3), (1, 4), (2, 2)]), False)

    def test_no_pairs(self):
        for m in ((1, []), M, full_machine(20, ["a"])):
            self.assertIs(is_one_way(m, []), True)

    def test_one_pair_lacking_or_too_many_in_whatever_order_and_twice(self):
        pairs = [(2, 2), (3, 0), (5, 1), (4, 1), (3, 0)]
        self.assertIs(is_one_way(M, pairs), True)
        for pair in set(pairs) - {(3, 0)}:
            self.assertIs(is_one_way(M, [other for other in pairs if other != pair]), False)
        for pair in [(0, 3), (1, 4), (0, 2), (4, 5)]:
            self.assertIs(is_one_way(M, [pair] + pairs), False)
            self.assertIs(is_one_way(M, pairs + [pair]), False)

    def test_all_lists_of_pairs_of_small_machines(self):
        for m in small_machines()[::5]:
            every = list(product(range(m[0]), repeat=2))
            for picks in product([False, True], repeat=len(every)):
                pairs = [pair for pair, pick in zip(every, picks) if pick]
                wanted = all(matches(m, pairs, p, q, False) for p, q in pairs)
                self.assertIs(is_one_way(m, pairs[::-1]), wanted)


class OneWayOf(unittest.TestCase):
    def check(self, m, p, q, wanted):
        told = one_way_of(m, p, q)
        if not wanted:
            self.assertIsNone(told)
            return
        assert_table(self, m, told, (p, q), False)
        self.assertIs(is_one_way(m, told), True)

    def test_small_machines(self):
        for m in small_machines()[::3] + line_machines()[::9] + some_machines(30, 6) + [M]:
            pairs = matched_pairs(m, False)
            for p, q in product(range(m[0]), repeat=2):
                self.check(m, p, q, (p, q) in pairs)

    def test_machines_of_many_states_and_steps(self):
        for m in large_machines() + [rings()]:
            pairs = matched_pairs(m, False)
            for p, q in [(0, 0), (0, 19), (19, 0), (3, 4), (1, 15)]:
                self.check(m, p, q, (p, q) in pairs)


class Lack(unittest.TestCase):
    def check(self, m, p, q):
        turn = missed_at(m, p, q)
        scroll = lack_of(m, p, q)
        if turn is None:
            self.assertIsNone(scroll)
            return 0
        assert_parts(self, m, scroll, (p, q), turn)
        self.assertLessEqual({row[0] for row in scroll}, {"some", "and"})
        return turn

    def test_ordinary_ones(self):
        self.assertEqual([missed_at(M, 0, 3), missed_at(M, 0, 2), missed_at(M, 3, 0)], [2, 1, None])
        self.assertEqual([self.check(M, 0, 3), self.check(M, 0, 2), self.check(M, 3, 0)], [2, 1, 0])
        self.assertIsNone(lack_of((1, []), 0, 0))

    def test_the_rounds_of_chains(self):
        for many in (2, 5, 20):
            for p, q in product(range(many), repeat=2):
                # The state p can go many - 1 - p steps; q falls short with the first one that it lacks.
                wanted = many - q if q > p else None
                self.assertEqual(missed_at(chain(many), p, q), wanted)
        self.assertEqual(self.check(chain(20), 0, 1), 19)

    def test_by_turns_of_following(self):
        for m in small_machines()[::3] + line_machines()[::7] + some_machines(30, 5):
            turns = [matched_pairs(m, False, turn) for turn in range(m[0] * m[0] + 1)]
            for p, q in product(range(m[0]), repeat=2):
                apart = [turn for turn, pairs in enumerate(turns) if (p, q) not in pairs]
                self.assertEqual(missed_at(m, p, q), apart[0] if apart else None)

    def test_small_machines(self):
        for m in small_machines()[::2] + line_machines()[::3] + some_machines(60, 6):
            for p, q in product(range(m[0]), repeat=2):
                self.check(m, p, q)

    def test_no_scroll_of_less_depth_tells_it(self):
        for m in line_machines()[::4] + small_machines()[::9] + some_machines(10, 4):
            for p, q in product(range(m[0]), repeat=2):
                turn = missed_at(m, p, q)
                if turn is not None:
                    self.assertFalse(any(p in one and q not in one for one in sets_told(m, turn - 1, False)))

    def test_many_more_rounds_than_states(self):
        m = rings()
        found = [self.check(m, p, q) for p in range(9) for q in range(9, 19)]
        self.assertEqual(sorted(found), list(range(1, 91)))

    def test_machines_of_many_states_and_steps(self):
        for m in large_machines():
            for p, q in product(range(0, 20, 4), range(0, 20, 3)):
                self.check(m, p, q)
        large = eased_by_words(some_machines(30, 9, ("*", "a", "b"), 4)[-1])
        for p, q in product(range(large[0]), repeat=2):
            self.check(large, p, q)

    def test_four_hundred_steps(self):
        m = (20, sorted(full_machine(20, ["a"])[1][:380] + [(k, "b", 19) for k in range(20)]))
        self.assertEqual(len(m[1]), 400)
        self.assertEqual(self.check(m, 0, 19), 1)
        self.assertEqual(self.check(m, 19, 0), 0)


class NoStates(unittest.TestCase):
    def test_on_either_side(self):
        for call in (can, one_way_of, missed_at, lack_of):
            for state in WRONG_STATES:
                assert_refused(self, NoState, call, M, state, 0)
                assert_refused(self, NoState, call, M, 0, state)
                assert_refused(self, NoState, call, M, state, state)
            assert_refused(self, NoState, call, (1, []), 0, 1)

    def test_in_any_pair_ahead_of_all_else(self):
        for state in WRONG_STATES:
            for pair in ((state, 0), (0, state), (state, state)):
                for good in ([(3, 0), (4, 1)], [(0, 2), (0, 3)]):
                    for place in range(3):
                        assert_refused(self, NoState, is_one_way, M, good[:place] + [pair] + good[place:])


class AskersOwn(unittest.TestCase):
    """[2] of one way."""

    def test_what_is_handed_in_stays_and_so_does_what_is_told(self):
        for call in (can, one_way_of, missed_at, lack_of):
            for p, q in [(0, 3), (3, 0), (1, 1)]:
                m = deepcopy(M)
                told = call(m, p, q)
                kept = deepcopy(told)
                self.assertEqual(m, M)
                self.assertEqual(call(deepcopy(m), p, q), told)
                m[1].clear()
                self.assertEqual(told, kept)
                if isinstance(told, list):
                    told.clear()
                self.assertEqual(call(M, p, q), kept)

    def test_pairs_stay(self):
        m = deepcopy(M)
        pairs = [(4, 1), (3, 0), (4, 1)]
        is_one_way(m, pairs)
        self.assertEqual((m, pairs), (M, [(4, 1), (3, 0), (4, 1)]))


if __name__ == "__main__":
    unittest.main()

"""[28] reach and the eased machine; [29] walks; [30] states that are kin; [7] of them."""

import unittest
from copy import deepcopy

from kinlook.easing import eased, kin, reach_of, walk_of
from kinlook.errors import NoDeed, NoState
from kinlook.kinds import alike, kinds_of, rounds_of
from kinlook.partings import parted_at, parting_of
from kinlook.tables import is_table, table_of
from samples import (
    assert_parts, assert_refused, eased_by_words, full_machine, large_machines, line_machines, matched_pairs,
    ranks_by_words, reached_hidden, small_machines, some_machines,
)

M = (5, [(0, "*", 1), (1, "*", 2), (1, "a", 3), (2, "b", 0), (3, "*", 4), (4, "*", 3)])
MACHINES = small_machines()[::3] + line_machines()[::40] + some_machines(60, 6) + some_machines(20, 7, ("*", "a"), 8)


class Reach(unittest.TestCase):
    def test_ordinary_ones(self):
        self.assertEqual([reach_of(M, state) for state in range(5)], [[0, 1, 2], [1, 2], [2], [3, 4], [3, 4]])

    def test_itself_alone(self):
        for m in ((1, []), (1, [(0, "*", 0)]), (2, [(0, "a", 1), (1, "*", 0)])):
            self.assertEqual(reach_of(m, 0), [0])

    def test_rings_of_hidden_steps(self):
        ring = (20, [(k, "*", (k + 1) % 20) for k in range(20)])
        for state in (0, 7, 19):
            self.assertEqual(reach_of(ring, state), list(range(20)))

    def test_by_the_words(self):
        for m in MACHINES + large_machines():
            for state in range(m[0]):
                self.assertEqual(reach_of(m, state), sorted(reached_hidden(m, state)))

    def test_machines_with_more_steps(self):
        self.assertEqual(reach_of(full_machine(20, ["*", "a"]), 5), list(range(20)))
        self.assertEqual(reach_of(full_machine(20, ["a", "b"]), 5), [5])


class Eased(unittest.TestCase):
    def test_ordinary_ones(self):
        self.assertEqual(eased((1, [])), (1, [(0, "*", 0)]))
        self.assertEqual(
            eased((4, [(0, "*", 1), (1, "a", 2), (2, "*", 3)])),
            (4, [
                (0, "*", 0), (0, "*", 1), (0, "a", 2), (0, "a", 3), (1, "*", 1), (1, "a", 2), (1, "a", 3),
                (2, "*", 2), (2, "*", 3), (3, "*", 3),
            ]),
        )

    def test_one_open_deed_at_a_time(self):
        self.assertEqual(eased((3, [(0, "a", 1), (1, "a", 2)])),
                         (3, [(0, "*", 0), (0, "a", 1), (1, "*", 1), (1, "a", 2), (2, "*", 2)]))

    def test_by_the_words(self):
        for m in MACHINES + large_machines():
            self.assertEqual(eased(m), eased_by_words(m))

    def test_eased_again_the_same(self):
        for m in MACHINES[::3] + large_machines():
            self.assertEqual(eased(eased(m)), eased(m))

    def test_as_many_steps_as_can_be(self):
        deeds = ["a", "b", "c", "d", "e", "f"]
        ring = [(k, "*", (k + 1) % 20) for k in range(20)] + [(k, deeds[k % 6], k) for k in range(20)]
        self.assertEqual(eased((20, sorted(ring))), full_machine(20, ["*"] + deeds))


class Walk(unittest.TestCase):
    def check(self, m, p, deed, q, wanted):
        told = walk_of(m, p, deed, q)
        if not wanted:
            self.assertIsNone(told)
            return
        self.assertIs(type(told), list)
        self.assertLessEqual(len(told), 2 * m[0] - 1)
        at = p
        for step in told:
            self.assertIs(type(step), tuple)
            self.assertIn(step, m[1])
            self.assertEqual(step[0], at)
            at = step[2]
        self.assertEqual(at, q)
        open_deeds = [step[1] for step in told if step[1] != "*"]
        self.assertEqual(open_deeds, [] if deed == "*" else [deed])

    def test_ordinary_ones(self):
        self.assertEqual(walk_of(M, 0, "*", 2), [(0, "*", 1), (1, "*", 2)])
        self.assertEqual(walk_of(M, 0, "a", 4), [(0, "*", 1), (1, "a", 3), (3, "*", 4)])
        self.assertEqual(walk_of(M, 2, "b", 0), [(2, "b", 0)])
        self.assertEqual(walk_of(M, 2, "b", 2), [(2, "b", 0), (0, "*", 1), (1, "*", 2)])
        self.assertIsNone(walk_of(M, 2, "a", 3))
        self.assertIsNone(walk_of(M, 2, "*", 0))
        self.assertIsNone(walk_of(M, 0, "q", 0))

    def test_of_no_step(self):
        for m in ((1, []), (1, [(0, "a", 0)]), (3, [(0, "a", 1)])):
            self.assertEqual(walk_of(m, 0, "*", 0), [])
        self.check((1, [(0, "*", 0)]), 0, "*", 0, True)
        self.assertIsNone(walk_of((1, [(0, "*", 0)]), 0, "a", 0))

    def test_as_long_as_can_be(self):
        hidden = [(k, "*", k + 1) for k in range(19)]
        m = (20, sorted(hidden + [(19, "a", 0)]))
        self.check(m, 0, "*", 19, True)
        self.assertEqual(len(walk_of(m, 0, "*", 19)), 19)
        self.check(m, 0, "a", 19, True)
        self.assertEqual(len(walk_of(m, 0, "a", 19)), 39)
        self.check(m, 5, "a", 3, True)

    def test_just_the_steps_of_the_eased_machine(self):
        for m in MACHINES:
            steps = eased_by_words(m)[1]
            for p in range(m[0]):
                for q in range(m[0]):
                    for deed in ("*", "a", "b"):
                        self.check(m, p, deed, q, (p, deed, q) in steps)

    def test_machines_of_many_states_and_steps(self):
        for m in large_machines() + [full_machine(20, ["*", "a", "b"]), eased_by_words(M)]:
            steps = eased_by_words(m)[1]
            for p in range(0, m[0], 3):
                for q in range(m[0]):
                    for deed in ("*", "a", "c"):
                        self.check(m, p, deed, q, (p, deed, q) in steps)


class Kin(unittest.TestCase):
    def test_ordinary_ones(self):
        m = (4, [(0, "*", 1), (1, "a", 2), (3, "a", 2)])
        self.assertIs(kin(m, 0, 1), True)
        self.assertIs(kin(m, 0, 3), True)
        self.assertIs(alike(m, 0, 1), False)
        self.assertIs(kin(m, 0, 2), False)

    def test_a_hidden_step_that_takes_a_choice_away(self):
        # 0 can do a or go hidden to 1, which can do b alone; 3 can do a or b.
        m = (4, [(0, "*", 1), (0, "a", 2), (1, "b", 2), (3, "a", 2), (3, "b", 2)])
        self.assertIs(kin(m, 0, 3), False)

    def test_rings_of_hidden_steps(self):
        m = (5, [(0, "*", 1), (1, "*", 2), (2, "*", 0), (2, "a", 3), (4, "a", 3)])
        for p in (0, 1, 2, 4):
            for q in (0, 1, 2, 4):
                self.assertIs(kin(m, p, q), True)
            self.assertIs(kin(m, p, 3), False)
        self.assertIs(kin((2, [(0, "*", 0)]), 0, 1), True)

    def test_by_matching_steps_of_the_eased_machine(self):
        for m in MACHINES[::2]:
            pairs = matched_pairs(eased_by_words(m), True)
            for p in range(m[0]):
                for q in range(m[0]):
                    self.assertIs(kin(m, p, q), (p, q) in pairs)

    def test_machines_of_many_states_and_steps(self):
        for m in large_machines():
            kinds = ranks_by_words(eased_by_words(m), 20)
            for p in range(20):
                self.assertIs(kin(m, p, 13), kinds[p] == kinds[13])


class MoreSteps(unittest.TestCase):
    """Eased machines, with more than 80 steps, handed in to what tells kinds, tables and partings."""

    def test_kinds_tables_and_partings(self):
        hidden = [(k, "*", k + 1) for k in range(19) if k % 5] + [(k, "ab"[k % 2], k // 2) for k in range(20)]
        for m in large_machines() + [(20, sorted(hidden))]:
            large = eased(m)
            rounds = rounds_of(large)
            self.assertEqual(rounds, [ranks_by_words(large, turn) for turn in range(len(rounds))])
            kinds = kinds_of(large)
            for p, q in [(0, 1), (1, 0), (3, 17), (19, 2), (8, 9), (4, 4)]:
                self.assertIs(alike(large, p, q), kinds[p] == kinds[q])
                if kinds[p] == kinds[q]:
                    self.assertIn((p, q), table_of(large, p, q))
                    self.assertIs(is_table(large, table_of(large, p, q)), True)
                else:
                    assert_parts(self, large, parting_of(large, p, q), (p, q), parted_at(large, p, q))


class Refused(unittest.TestCase):
    def test_states(self):
        for m in ((1, []), M, (20, [])):
            for state in (-1, -m[0], m[0], m[0] + 1, 10 ** 50):
                assert_refused(self, NoState, reach_of, m, state)
                for call in (kin, lambda m, p, q: walk_of(m, p, "a", q), lambda m, p, q: walk_of(m, p, "*", q)):
                    assert_refused(self, NoState, call, m, state, 0)
                    assert_refused(self, NoState, call, m, 0, state)
                    assert_refused(self, NoState, call, m, state, state)
            self.assertIn(m[0] - 1, reach_of(m, m[0] - 1))

    def test_deeds(self):
        for word in ("", "abcdefg", "A", "a1", "**", "a ", " ", "0"):
            assert_refused(self, NoDeed, walk_of, M, 0, word, 1)
            assert_refused(self, NoDeed, walk_of, M, 0, word, 0)
            assert_refused(self, NoDeed, walk_of, (1, []), 0, word, 0)

    def test_no_state_ahead_of_no_deed(self):
        for state in (-1, 5):
            for word in ("", "A", "**"):
                assert_refused(self, NoState, walk_of, M, state, word, 0)
                assert_refused(self, NoState, walk_of, M, 0, word, state)


class AskersOwn(unittest.TestCase):
    """[2] of easing."""

    def calls(self):
        return [
            lambda m: reach_of(m, 0), eased, lambda m: walk_of(m, 0, "*", 2), lambda m: walk_of(m, 0, "a", 4),
            lambda m: walk_of(m, 0, "*", 0), lambda m: kin(m, 0, 1), lambda m: eased(eased(m)),
        ]

    def test_what_is_handed_in_stays_and_so_does_what_is_told(self):
        for call in self.calls():
            m = deepcopy(M)
            told = call(m)
            kept = deepcopy(told)
            self.assertEqual(m, M)
            self.assertEqual(call(deepcopy(m)), told)
            m[1].clear()
            self.assertEqual(told, kept)

    def test_what_was_told_ahead_may_be_changed(self):
        for call in self.calls():
            told = call(M)
            kept = deepcopy(told)
            if isinstance(told, tuple):
                told[1].clear()
            elif isinstance(told, list):
                told.append((9, "z", 9))
            self.assertEqual(call(M), kept)
        self.assertEqual(len(M[1]), 6)


if __name__ == "__main__":
    unittest.main()

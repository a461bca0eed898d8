"""[21] the rounds of ranks and the kinds; [22] states that are alike; [7] of alike."""

import unittest
from copy import deepcopy

from kinlook.errors import NoState
from kinlook.kinds import alike, kinds_of, rounds_of
from samples import (
    assert_refused, chain, full_machine, large_machines, line_machines, matched_pairs, put_as_one, ranks_by_words,
    small_machines, some_machines,
)


class Rounds(unittest.TestCase):
    def test_a_short_chain(self):
        self.assertEqual(rounds_of((3, [(0, "a", 1), (1, "a", 2)])), [[0, 0, 0], [1, 1, 0], [2, 1, 0]])

    def test_the_deeds_are_ordered_the_hidden_one_ahead(self):
        self.assertEqual(rounds_of((3, [(0, "b", 0), (1, "a", 0), (2, "*", 2)])), [[0, 0, 0], [2, 1, 0]])
        self.assertEqual(rounds_of((4, [(0, "b", 0), (1, "ab", 0), (2, "a", 2)])), [[0, 0, 0, 0], [3, 2, 1, 0]])

    def test_lists_are_ordered_as_python_does(self):
        # 5 stands still, 4 goes to 5; the others go with a to 5, to 4 and 5, to 4 alone.
        m = (6, [(0, "a", 4), (1, "a", 4), (1, "a", 5), (2, "a", 5), (3, "a", 4), (3, "b", 5), (4, "b", 5)])
        self.assertEqual(rounds_of(m), [[0] * 6, [1, 1, 1, 2, 3, 0], [3, 2, 1, 4, 5, 0]])

    def test_the_rank_ahead_goes_first_in_the_key(self):
        # 0 and 1 differ from 2 in round 1 already; what they lead to differs in round 2.
        m = (5, [(0, "b", 3), (1, "b", 2), (2, "a", 4), (3, "a", 2)])
        self.assertEqual(rounds_of(m), [[0] * 5, [2, 2, 1, 1, 0], [3, 3, 1, 2, 0], [4, 3, 1, 2, 0]])

    def test_different_pairs_count_once(self):
        m = (5, [(0, "a", 2), (0, "a", 3), (1, "a", 3), (2, "b", 4), (3, "b", 4)])
        self.assertEqual(rounds_of(m), [[0] * 5, [1, 1, 2, 2, 0]])

    def test_the_same_deed_to_two_states_of_unlike_ranks(self):
        m = (5, [(0, "a", 2), (0, "a", 3), (1, "a", 2), (2, "b", 4), (4, "a", 3)])
        self.assertEqual(rounds_of(m), [[0] * 5, [1, 1, 2, 0, 1], [2, 3, 4, 0, 1]])

    def test_the_first_round_is_already_the_last_one(self):
        for m in ((1, []), (20, []), (1, [(0, "a", 0)]), (2, [(0, "a", 1), (1, "a", 0)]), full_machine(20, ["*", "a"])):
            self.assertEqual(rounds_of(m), [[0] * m[0]])
            self.assertEqual(kinds_of(m), [0] * m[0])

    def test_as_many_rounds_as_can_be(self):
        for many in (2, 3, 19, 20):
            wanted = [[min(many - 1 - state, turn) for state in range(many)] for turn in range(many)]
            self.assertEqual(rounds_of(chain(many)), wanted)
            self.assertEqual(kinds_of(chain(many)), list(range(many))[::-1])

    def test_by_the_words(self):
        for m in small_machines() + line_machines() + some_machines(60, 6) + large_machines():
            told = rounds_of(m)
            self.assertEqual(told, [ranks_by_words(m, turn) for turn in range(len(told))])
            self.assertEqual(ranks_by_words(m, len(told)), told[-1])
            for ranks, others in zip(told, told[1:]):
                self.assertNotEqual(ranks, others)
            self.assertEqual(kinds_of(m), told[-1])

    def test_the_kinds_of_what_is_told(self):
        told = rounds_of((2, [(0, "a", 1)]))
        self.assertEqual([type(told), type(told[0]), type(told[1]), type(kinds_of((1, [])))], [list] * 4)
        self.assertEqual({type(rank) for ranks in told for rank in ranks}, {int})


class Alike(unittest.TestCase):
    def test_ordinary_ones(self):
        m = (4, [(0, "a", 1), (2, "a", 3), (3, "a", 3)])
        self.assertIs(alike(m, 0, 2), False)
        self.assertIs(alike(m, 2, 3), True)
        self.assertIs(alike(m, 1, 0), False)

    def test_hidden_steps_are_steps_like_others(self):
        m = (3, [(0, "*", 1), (1, "a", 2)])
        self.assertIs(alike(m, 0, 1), False)

    def test_the_choice_made_early_or_late(self):
        # 0: a, then b or c; 4: a and b, or a and c. They can do the same rows of deeds, but are not alike.
        m = (9, [(0, "a", 1), (1, "b", 2), (1, "c", 3), (4, "a", 5), (4, "a", 6), (5, "b", 7), (6, "c", 8)])
        self.assertIs(alike(m, 0, 4), False)
        self.assertIs(alike(m, 2, 8), True)

    def test_a_state_and_itself(self):
        for m in large_machines():
            for state in range(20):
                self.assertIs(alike(m, state, state), True)

    def test_by_matching_steps(self):
        for m in small_machines() + line_machines()[::3] + some_machines(40, 6):
            pairs = matched_pairs(m, True)
            for p in range(m[0]):
                for q in range(m[0]):
                    self.assertIs(alike(m, p, q), (p, q) in pairs)

    def test_machines_of_many_states_and_steps(self):
        for m in large_machines():
            kinds = ranks_by_words(m, 20)
            for p in range(20):
                self.assertIs(alike(m, p, 7), kinds[p] == kinds[7])
        self.assertIs(alike(full_machine(20, ["*", "a", "b"]), 0, 19), True)

    def test_the_order_of_ranks_does_not_hang_on_other_states(self):
        def order(ranks):
            return [(a > b) - (a < b) for a in ranks for b in ranks]

        machines = some_machines(50, 5)
        for one, other in zip(machines, machines[1:]):
            both = kinds_of(put_as_one(one, other))
            self.assertEqual(order(both[:one[0]]), order(kinds_of(one)))
            self.assertEqual(order(both[one[0]:]), order(kinds_of(other)))

    def test_states(self):
        for m in ((1, []), (3, [(0, "a", 1)]), (20, [])):
            for state in (-1, -m[0], m[0], m[0] + 1, 10 ** 50):
                assert_refused(self, NoState, alike, m, state, 0)
                assert_refused(self, NoState, alike, m, 0, state)
                assert_refused(self, NoState, alike, m, state, state)


class AskersOwn(unittest.TestCase):
    """[2] of kinds."""

    def test_what_is_handed_in_stays_and_so_does_what_is_told(self):
        for call in (rounds_of, kinds_of, lambda m: alike(m, 0, 1)):
            m = (3, [(0, "a", 1), (1, "a", 2)])
            told = call(m)
            kept = deepcopy(told)
            self.assertEqual(m, (3, [(0, "a", 1), (1, "a", 2)]))
            self.assertEqual(call(deepcopy(m)), told)
            m[1].clear()
            self.assertEqual(told, kept)

    def test_what_was_told_ahead_may_be_changed(self):
        m = (3, [(0, "a", 1), (1, "a", 2)])
        for ranks in rounds_of(m):
            ranks.clear()
        rounds_of(m).clear()
        kinds_of(m).clear()
        self.assertEqual(rounds_of(m), [[0, 0, 0], [1, 1, 0], [2, 1, 0]])
        self.assertEqual(kinds_of(m), [2, 1, 0])
        told = rounds_of(m)
        told[0][0] = 9
        self.assertEqual(told[1:], [[1, 1, 0], [2, 1, 0]])


if __name__ == "__main__":
    unittest.main()

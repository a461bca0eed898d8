"""[26] the least machine and homes; [27] what follows of it."""

import unittest
from copy import deepcopy

from kinlook.leasts import homes_of, least_of
from kinlook.machines import met
from samples import (
    begin_alike, chain, eased_by_words, full_machine, large_machines, line_machines, matched_pairs, put_as_one,
    ranks_by_words, small_machines, some_machines,
)


def homes_by_words(m):
    """The homes of the states, by the words of [26]."""
    kinds = ranks_by_words(m, m[0])
    wanted = sorted({kinds[state] for state in met(m)} - {kinds[0]})
    order = [kinds[0]] + wanted
    return [order.index(kind) if kind in order else None for kind in kinds]


def least_by_words(m):
    homes = homes_by_words(m)
    found = met(m)
    steps = {(homes[start], deed, homes[end]) for start, deed, end in m[1] if start in found}
    return (len({homes[state] for state in found}), sorted(steps))


class Least(unittest.TestCase):
    def test_an_ordinary_one(self):
        m = (5, [(0, "a", 1), (0, "a", 3), (1, "b", 2), (3, "b", 4)])
        # The kinds by their ranks: 2 and 4, then 0, then 1 and 3.
        self.assertEqual(homes_of(m), [0, 2, 1, 2, 1])
        self.assertEqual(least_of(m), (3, [(0, "a", 2), (2, "b", 1)]))

    def test_nothing_to_make_less(self):
        self.assertEqual(least_of((1, [])), (1, []))
        self.assertEqual(homes_of((1, [])), [0])
        self.assertEqual(least_of((1, [(0, "*", 0), (0, "a", 0)])), (1, [(0, "*", 0), (0, "a", 0)]))

    def test_all_alike(self):
        self.assertEqual(least_of((20, [])), (1, []))
        self.assertEqual(homes_of((20, [])), [0] * 20)
        ring = (20, [(k, "a", (k + 1) % 20) for k in range(20)])
        self.assertEqual(least_of(ring), (1, [(0, "a", 0)]))

    def test_states_that_are_not_met(self):
        # 2 is not met and like 1; 3 is not met and like none that is.
        m = (4, [(0, "a", 1), (2, "b", 2), (1, "b", 1), (3, "c", 0)])
        m = (4, sorted(m[1]))
        self.assertEqual(homes_of(m), [0, 1, 1, None])
        self.assertEqual(least_of(m), (2, [(0, "a", 1), (1, "b", 1)]))
        self.assertEqual(homes_of((3, [(1, "a", 2)])), [0, None, 0])
        self.assertEqual(least_of((3, [(1, "a", 2)])), (1, []))

    def test_a_state_not_met_that_is_like_the_beginning(self):
        m = (3, [(0, "a", 1), (2, "a", 1)])
        self.assertEqual(homes_of(m), [0, 1, 0])
        self.assertEqual(least_of(m), (2, [(0, "a", 1)]))

    def test_the_kind_of_nought_is_not_the_least_rank(self):
        self.assertEqual(least_of(chain(3)), (3, [(0, "a", 2), (2, "a", 1)]))
        self.assertEqual(homes_of(chain(3)), [0, 2, 1])

    def test_twenty_states_all_of_them_unlike(self):
        self.assertEqual(homes_of(chain(20)), [0] + list(range(19, 0, -1)))
        self.assertEqual(least_of(chain(20)), (20, sorted([(0, "a", 19)] + [(k, "a", k - 1) for k in range(2, 20)])))
        down = (20, sorted([(0, "b", 19)] + [(k, "a", k - 1) for k in range(2, 20)]))
        self.assertEqual(least_of(down), down)
        self.assertEqual(homes_of(down), list(range(20)))

    def test_by_the_words(self):
        for m in small_machines() + line_machines() + some_machines(100, 6) + large_machines():
            self.assertEqual(homes_of(m), homes_by_words(m))
            self.assertEqual(least_of(m), least_by_words(m))

    def test_machines_with_more_steps(self):
        self.assertEqual(least_of(full_machine(20, ["*", "a", "b"])), (1, [(0, "*", 0), (0, "a", 0), (0, "b", 0)]))
        for m in some_machines(20, 9, ("*", "*", "a")) + large_machines():
            large = eased_by_words(m)
            self.assertEqual(least_of(large), least_by_words(large))
            self.assertEqual(homes_of(large), homes_by_words(large))
        hidden = [(k, "*", k + 1) for k in range(19)] + [(k, "a", 0) for k in range(1, 20)]
        large = eased_by_words((20, sorted(hidden)))
        self.assertGreater(len(large[1]), 400)
        self.assertEqual(least_of(large), least_by_words(large))


class WhatFollows(unittest.TestCase):
    MACHINES = small_machines()[::4] + line_machines()[::9] + some_machines(40, 5)

    def test_no_two_states_are_alike(self):
        for m in self.MACHINES:
            least = least_of(m)
            self.assertEqual(matched_pairs(least, True), {(state, state) for state in range(least[0])})
            self.assertEqual(met(least), list(range(least[0])))

    def test_a_state_is_alike_to_its_home(self):
        for m in self.MACHINES:
            pairs = matched_pairs(put_as_one(m, least_of(m)), True)
            homes = homes_of(m)
            self.assertEqual(len(homes), m[0])
            self.assertEqual(homes[0], 0)
            for state, home in enumerate(homes):
                if home is None:
                    self.assertFalse(any((state, other) in pairs for other in met(m)))
                else:
                    self.assertIn((state, m[0] + home), pairs)

    def test_the_least_machine_of_the_least_machine(self):
        for m in self.MACHINES + large_machines():
            least = least_of(m)
            self.assertEqual(least_of(least), least)
            self.assertEqual(homes_of(least), list(range(least[0])))

    def test_machines_begin_alike_just_where_their_least_ones_are_equal(self):
        machines = small_machines()[::6] + line_machines()[::23] + some_machines(30, 4, ("a", "b"))
        alike_ones = 0
        for one in machines:
            for other in machines[::2]:
                alike_ones += least_of(one) == least_of(other)
                self.assertIs(least_of(one) == least_of(other), begin_alike(one, other))
        self.assertGreater(alike_ones, 100)

    def test_the_numbers_of_the_states_do_not_matter(self):
        # The same machine with its states 1, 2, 3 numbered otherwise.
        m = (4, [(0, "a", 1), (0, "a", 2), (1, "b", 3), (2, "c", 3), (3, "a", 0)])
        for order in ([0, 1, 2, 3], [0, 3, 2, 1], [0, 2, 3, 1], [0, 3, 1, 2]):
            other = (4, sorted((order[start], deed, order[end]) for start, deed, end in m[1]))
            self.assertEqual(least_of(other), least_of(m))


class AskersOwn(unittest.TestCase):
    """[2] of the least machine."""

    def test_what_is_handed_in_stays_and_so_does_what_is_told(self):
        for call in (least_of, homes_of):
            m = (3, [(0, "a", 1), (1, "b", 0), (2, "a", 2)])
            told = call(m)
            kept = deepcopy(told)
            self.assertEqual(m, (3, [(0, "a", 1), (1, "b", 0), (2, "a", 2)]))
            self.assertEqual(call(deepcopy(m)), told)
            m[1].clear()
            self.assertEqual(told, kept)

    def test_what_was_told_ahead_may_be_changed(self):
        m = chain(3)
        least_of(m)[1].clear()
        homes_of(m).clear()
        self.assertEqual(m, chain(3))
        self.assertEqual(least_of(m), (3, [(0, "a", 2), (2, "a", 1)]))
        self.assertEqual(homes_of(m), [0, 2, 1])
        least = least_of(least_of(m))
        least_of(least)[1].clear()
        self.assertEqual(least, least_of(m))

    def test_the_kinds_of_what_is_told(self):
        told = least_of(chain(3))
        self.assertEqual([type(told), type(told[0]), type(told[1]), type(told[1][0])], [tuple, int, list, tuple])
        self.assertEqual({type(home) for home in homes_of((2, [(1, "a", 1)]))}, {int, type(None)})


if __name__ == "__main__":
    unittest.main()

"""[14] what a scroll is; [15] where it holds; [16] its depth; [7] of holds."""

import unittest
from copy import deepcopy

from kinlook.errors import NoScroll, NoState
from kinlook.scrolls import depth_of, held_at, holds, is_scroll, without_not
from samples import (
    NO_SCROLLS, YES, assert_refused, deep_of, full_machine, small_machines, some_machines, some_scrolls, true_at,
)

NO = ("or", ())
# 0 goes with a to 1 and 2 and hidden to 3; 1 goes with b to 0; 2 and 3 stand still.
M = (4, [(0, "*", 3), (0, "a", 1), (0, "a", 2), (1, "b", 0)])


class IsScroll(unittest.TestCase):
    def test_each_word(self):
        for row in [
            ("some", "a", 0), ("some", "*", 0), ("all", "abcdef", 0), ("all", "*", 0), ("not", 0), ("and", ()),
            ("and", (0,)), ("and", (0, 0)), ("or", ()), ("or", (0,)), ("or", (0, 0, 0)), ("some", "some", 0),
        ]:
            with self.subTest(row=row):
                self.assertIs(is_scroll([YES, row]), True)
                self.assertIs(is_scroll([NO, row, row]), True)

    def test_the_first_row_draws_on_none(self):
        self.assertIs(is_scroll([("and", ())]), True)
        self.assertIs(is_scroll([("or", ())]), True)

    def test_rows_that_nothing_reads(self):
        self.assertIs(is_scroll([YES, NO, ("some", "a", 1), ("not", 0)]), True)

    def test_numbers_up_to_just_below_the_rows_own(self):
        for k in (1, 2, 3, 50):
            ahead = [YES] * k
            for j in (-k, -1, 0, k - 1, k, k + 1):
                for row in (("some", "a", j), ("all", "a", j), ("not", j), ("and", (0, j)), ("or", (j, 0))):
                    self.assertIs(is_scroll(ahead + [row]), 0 <= j < k)
                    self.assertIs(is_scroll(ahead + [row] + ahead), 0 <= j < k)

    def test_how_many_rows(self):
        for many in (1, 2, 1999, 2000):
            self.assertIs(is_scroll([YES] * many), True)
        for many in (0, 2001, 2500):
            self.assertIs(is_scroll([YES] * many), False)

    def test_how_many_parts(self):
        for word in ("and", "or"):
            for many in (0, 1, 199, 200, 201, 300):
                self.assertIs(is_scroll([YES, (word, (0,) * many)]), many <= 200)
            self.assertIs(is_scroll([YES] * 200 + [(word, tuple(range(200)))]), True)
            self.assertIs(is_scroll([YES] * 201 + [(word, tuple(range(201)))]), False)

    def test_whatever_is_none(self):
        for thing in NO_SCROLLS:
            with self.subTest(thing=str(thing)[:80]):
                self.assertIs(is_scroll(thing), False)

    def test_a_wrong_row_at_whatever_place(self):
        good = [YES, ("some", "a", 0), ("and", (0, 1)), ("not", 2)]
        for place in range(5):
            for wrong in (("no", 0), ("not", 9), ("and", (9,)), ("some", "A", 0), ["and", ()], None, ()):
                self.assertIs(is_scroll(good[:place] + [wrong] + good[place:]), False)

    def test_some_of_many_rows(self):
        for scroll in some_scrolls(200):
            self.assertIs(is_scroll(scroll), True)


class Holds(unittest.TestCase):
    def test_and_and_or(self):
        rows = [YES, NO, ("and", (0, 1)), ("or", (0, 1)), ("and", (0, 0)), ("or", (1, 1)), ("and", (1,)), ("or", (0,))]
        every = [0, 1, 2, 3]
        self.assertEqual(held_at(M, rows), [every, [], [], every, every, [], [], every])

    def test_some_and_all(self):
        rows = [YES, ("some", "a", 0), ("some", "b", 0), ("some", "a", 2), ("all", "a", 2), ("all", "b", 1), ("some", "*", 0)]
        self.assertEqual(held_at(M, rows), [[0, 1, 2, 3], [0], [1], [0], [1, 2, 3], [0, 1, 2, 3], [0]])

    def test_all_at_a_state_without_such_a_step(self):
        self.assertEqual(held_at(M, [NO, ("all", "a", 0), ("all", "b", 0), ("all", "q", 0)])[1:],
                         [[1, 2, 3], [0, 2, 3], [0, 1, 2, 3]])
        self.assertIs(holds((1, []), [NO, ("all", "a", 0)], 0), True)
        self.assertIs(holds((1, []), [YES, ("some", "a", 0)], 0), False)

    def test_hidden_steps_are_steps_like_others(self):
        self.assertEqual(held_at((3, [(0, "*", 1), (1, "a", 2)]), [YES, ("some", "a", 0), ("some", "*", 1)]),
                         [[0, 1, 2], [1], [0]])

    def test_not(self):
        self.assertEqual(held_at(M, [YES, ("not", 0), ("some", "a", 0), ("not", 2), ("not", 3)]),
                         [[0, 1, 2, 3], [], [0], [1, 2, 3], [0]])

    def test_the_last_row_is_what_the_scroll_says(self):
        self.assertIs(holds(M, [YES, NO], 0), False)
        self.assertIs(holds(M, [NO, YES], 0), True)
        self.assertIs(holds(M, [YES, ("some", "a", 0), NO, ("not", 1)], 0), False)
        self.assertIs(holds(M, [YES, ("some", "a", 0), NO, ("not", 1)], 1), True)

    def test_held_against_the_words_row_by_row(self):
        machines = small_machines()[::7] + some_machines(40)
        for scroll in some_scrolls(120):
            for m in machines[::6]:
                told = held_at(m, scroll)
                self.assertEqual(len(told), len(scroll))
                for k in range(len(scroll)):
                    self.assertEqual(told[k], [state for state in range(m[0]) if true_at(m, scroll, k, state)])
                for state in range(m[0]):
                    self.assertIs(holds(m, scroll, state), state in told[-1])

    def test_the_greatest_scrolls(self):
        self.assertEqual(held_at((2, []), [YES]), [[0, 1]])
        rows = [("and", ())] + [("and", (0,) * 200)] * 999 + [("or", tuple(range(800, 1000)))] * 1000
        self.assertEqual(held_at((20, []), rows), [list(range(20))] * 2000)
        chain = [YES]
        while len(chain) < 2000:
            chain.append(("some", "a", len(chain) - 1))
        self.assertIs(holds((1, [(0, "a", 0)]), chain, 0), True)
        self.assertIs(holds((2, [(0, "a", 1)]), chain, 0), False)
        self.assertEqual(depth_of(chain), 1999)

    def test_machines_with_more_steps(self):
        large = full_machine(20, ["*", "a", "b"])
        rows = [YES, ("some", "a", 0), ("all", "b", 1), ("some", "c", 0), ("and", (1, 2, 3)), ("or", (2, 3))]
        every = list(range(20))
        self.assertEqual(held_at(large, rows), [every, every, every, [], [], every])


class Depth(unittest.TestCase):
    def test_ordinary_ones(self):
        self.assertEqual(depth_of([YES]), 0)
        self.assertEqual(depth_of([NO]), 0)
        self.assertEqual(depth_of([YES, ("some", "a", 0)]), 1)
        self.assertEqual(depth_of([YES, ("all", "*", 0)]), 1)
        self.assertEqual(depth_of([YES, ("some", "a", 0), ("not", 1)]), 1)
        self.assertEqual(depth_of([YES, ("not", 0), ("all", "b", 1), ("some", "a", 2)]), 2)

    def test_the_greatest_of_the_parts(self):
        rows = [YES, ("some", "a", 0), ("all", "a", 1), ("some", "b", 0)]
        for word in ("and", "or"):
            self.assertEqual(depth_of(rows + [(word, (0, 2, 1))]), 2)
            self.assertEqual(depth_of(rows + [(word, (3, 0))]), 1)
            self.assertEqual(depth_of(rows + [(word, (2, 2))]), 2)
            self.assertEqual(depth_of(rows + [(word, ())]), 0)

    def test_rows_that_nothing_reads_do_not_count(self):
        self.assertEqual(depth_of([YES, ("some", "a", 0), ("some", "a", 1), ("not", 0)]), 0)

    def test_by_the_words(self):
        for scroll in some_scrolls(200):
            self.assertEqual(depth_of(scroll), deep_of(scroll, len(scroll) - 1))


class Refused(unittest.TestCase):
    def test_whatever_is_no_scroll(self):
        for thing in NO_SCROLLS:
            with self.subTest(thing=str(thing)[:80]):
                assert_refused(self, NoScroll, held_at, M, thing)
                assert_refused(self, NoScroll, holds, M, thing, 0)
                assert_refused(self, NoScroll, depth_of, thing)

    def test_states(self):
        for m in ((1, []), M, (20, [])):
            self.assertIs(holds(m, [YES], m[0] - 1), True)
            self.assertIs(holds(m, [YES], 0), True)
            for state in (-1, -m[0], m[0], m[0] + 1, 10 ** 50, -(10 ** 50)):
                assert_refused(self, NoState, holds, m, [YES], state)

    def test_no_scroll_ahead_of_no_state(self):
        for thing in (None, [], [("not", 0)], [YES] * 2001):
            for state in (-1, 4):
                assert_refused(self, NoScroll, holds, M, thing, state)


class AskersOwn(unittest.TestCase):
    """[2] of scrolls."""

    ROWS = [YES, ("some", "a", 0), ("and", (1,)), ("and", (0, 1)), ("not", 3), ("or", (2, 4))]

    def calls(self):
        return [
            ("is_scroll", lambda m, scroll: is_scroll(scroll)),
            ("held_at", held_at),
            ("holds", lambda m, scroll: holds(m, scroll, 0)),
            ("depth_of", lambda m, scroll: depth_of(scroll)),
            ("without_not", lambda m, scroll: without_not(scroll)),
        ]

    def test_what_is_handed_in_stays_and_so_does_what_is_told(self):
        for name, call in self.calls():
            with self.subTest(name=name):
                m = deepcopy(M)
                scroll = deepcopy(self.ROWS)
                told = call(m, scroll)
                kept = deepcopy(told)
                self.assertEqual((m, scroll), (M, self.ROWS))
                self.assertEqual(call(deepcopy(m), deepcopy(scroll)), told)
                m[1].clear()
                scroll.clear()
                self.assertEqual(told, kept)

    def test_each_rows_list_is_one_by_itself(self):
        told = held_at(M, self.ROWS)
        kept = deepcopy(told)
        told[1].append(9)
        self.assertEqual(told[2:] + told[:1], kept[2:] + kept[:1])
        told.clear()
        self.assertEqual(held_at(M, self.ROWS), kept)

    def test_the_scroll_stays_when_the_one_told_without_not_is_changed(self):
        for rows in (self.ROWS, [YES], [NO, ("all", "a", 0)]):
            scroll = deepcopy(rows)
            told = without_not(scroll)
            told.append(("not", 0))
            self.assertEqual(scroll, rows)


if __name__ == "__main__":
    unittest.main()

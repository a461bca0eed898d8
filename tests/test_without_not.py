"""[17] a scroll told without "not"."""

import unittest

from kinlook.errors import NoScroll, TooBig
from kinlook.scrolls import depth_of, is_scroll, without_not
from samples import NO_SCROLLS, YES, assert_refused, deep_of, line_machines, small_machines, some_machines, some_scrolls
from samples import true_states

NO = ("or", ())
MACHINES = small_machines()[::9] + line_machines()[::60] + some_machines(12)


class WithoutNot(unittest.TestCase):
    def check(self, scroll, machines=MACHINES):
        told = without_not(scroll)
        self.assertIs(is_scroll(told), True)
        self.assertNotIn("not", [row[0] for row in told])
        self.assertLessEqual(len(told), 2 * len(scroll))
        self.assertEqual(deep_of(told, len(told) - 1), deep_of(scroll, len(scroll) - 1))
        for m in machines:
            self.assertEqual(true_states(m, told), true_states(m, scroll))

    def test_each_word_under_not(self):
        rows = [YES, ("some", "a", 0), ("all", "a", 0), NO, ("all", "b", 3), ("some", "*", 4)]
        ends = [
            [("not", 0)], [("not", 3)], [("not", 1)], [("not", 2)], [("not", 4)], [("not", 5)],
            [("and", (1, 4)), ("not", 6)], [("or", (1, 4)), ("not", 6)], [("not", 1), ("not", 6)],
            [("not", 1), ("not", 6), ("not", 7)], [("not", 1), ("and", (6, 1))], [("not", 1), ("or", (6, 4)), ("not", 7)],
            [("not", 1), ("some", "b", 6)], [("not", 1), ("all", "b", 6), ("not", 7)], [("and", (1, 1, 4)), ("not", 6)],
            [("or", ()), ("not", 6)], [("and", ()), ("not", 6)],
        ]
        for end in ends:
            with self.subTest(end=end):
                self.check(rows + end)

    def test_without_any_not(self):
        for scroll in ([YES], [NO], [YES, ("some", "a", 0)], [YES, NO, ("and", (0, 1)), ("all", "a", 2), ("or", (0, 3))]):
            self.check(scroll)

    def test_the_last_row_says_what_an_earlier_one_says(self):
        # Two nots undo one another, and rows that nothing reads stand between.
        self.check([YES, ("some", "a", 0), ("not", 1), NO, ("all", "b", 3), ("not", 2)])
        self.check([YES, ("some", "a", 0), NO, ("all", "b", 2), ("not", 1)])

    def test_rows_that_nothing_reads(self):
        self.check([YES, ("some", "a", 0), ("some", "a", 1), ("not", 2), ("not", 0)])
        self.check([YES, ("not", 0), NO])

    def test_some_of_many(self):
        for scroll in some_scrolls(250):
            self.check(scroll, MACHINES[::4])

    def test_many_parts(self):
        self.check([YES, ("some", "a", 0), ("not", 1), ("and", (1, 2) * 100), ("or", (2, 2, 3) * 66), ("not", 4)])

    def test_a_long_row_of_nots(self):
        for many in (998, 999):
            scroll = [NO]
            while len(scroll) <= many:
                scroll.append(("not", len(scroll) - 1))
            told = without_not(scroll)
            self.assertIs(is_scroll(told), True)
            self.assertEqual(true_states((1, []), told), [] if many % 2 == 0 else [0])
            self.assertNotIn("not", [row[0] for row in told])

    def test_a_thousand_rows_and_one_more(self):
        chain = [YES]
        while len(chain) < 999:
            chain.append((("some", "all")[len(chain) % 2], "a", len(chain) - 1))
        told = without_not(chain + [("not", 998)])
        self.assertIs(is_scroll(told), True)
        self.assertLessEqual(len(told), 2000)
        self.assertEqual(depth_of(told), 998)
        self.assertNotIn("not", [row[0] for row in told])
        for rows in ([YES] * 1001, chain + [("not", 998)] * 2, [YES] * 2000, [YES] * 1000 + [("not", 0)]):
            assert_refused(self, TooBig, without_not, rows)

    def test_both_what_a_row_says_and_its_opposite_are_read(self):
        rows = [YES]
        while len(rows) < 999:
            k = len(rows) - 1
            rows.extend([("some", "a", k), ("not", k + 1), ("and", (k + 1, k + 1)), ("or", (k + 2, k + 3))])
        rows = rows[:997]
        told = without_not(rows)
        self.assertIs(is_scroll(told), True)
        self.assertLessEqual(len(told), 2 * len(rows))
        self.assertEqual(depth_of(told), depth_of(rows))

    def test_whatever_is_no_scroll_ahead_of_too_big(self):
        for thing in NO_SCROLLS:
            with self.subTest(thing=str(thing)[:80]):
                assert_refused(self, NoScroll, without_not, thing)
        assert_refused(self, NoScroll, without_not, [YES] * 1001 + [("not", 1001)])
        assert_refused(self, NoScroll, without_not, [YES] * 2001)


if __name__ == "__main__":
    unittest.main()

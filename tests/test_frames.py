"""[13] frames."""

import unittest
from copy import deepcopy

from kinlook.errors import NoDeed, NoFrame, TooBig
from kinlook.frames import framed
from kinlook.mixes import beside, hide, rename
from samples import assert_refused, full_machine, small_machines

M = (2, [(0, "a", 1), (1, "b", 0)])
OTHER = (3, [(0, "a", 2), (2, "c", 1)])
OTHER_WORDS = ["", "Right", "right ", "beside", "LEFT", "hidden", "renamed", "*", "a", "none"]


class Framed(unittest.TestCase):
    def test_right_puts_the_machine_as_the_one(self):
        self.assertEqual(framed(M, [("right", OTHER, ["a"])]), beside(M, OTHER, ["a"]))
        self.assertEqual(
            framed((4, [(2, "a", 3)]), [("right", (5, [(1, "a", 4)]), ["a"])]), (20, [(11, "a", 19)])
        )

    def test_left_puts_the_other_as_the_one(self):
        self.assertEqual(framed(M, [("left", OTHER, ["a"])]), beside(OTHER, M, ["a"]))
        self.assertEqual(
            framed((4, [(2, "a", 3)]), [("left", (5, [(1, "a", 4)]), ["a"])]), (20, [(6, "a", 19)])
        )

    def test_hide_and_rename(self):
        self.assertEqual(framed(M, [("hide", ["a"])]), (2, [(0, "*", 1), (1, "b", 0)]))
        self.assertEqual(framed(M, [("rename", [("a", "z")])]), (2, [(0, "z", 1), (1, "b", 0)]))

    def test_no_rows(self):
        for m in small_machines() + [full_machine(20, ["*", "a", "b"])]:
            self.assertEqual(framed(m, []), m)

    def test_each_row_is_done_to_what_came_of_the_one_ahead(self):
        self.assertEqual(
            framed((1, [(0, "a", 0)]), [("rename", [("a", "b")]), ("rename", [("b", "c")])]), (1, [(0, "c", 0)])
        )
        self.assertEqual(
            framed((1, [(0, "a", 0)]), [("rename", [("b", "c")]), ("rename", [("a", "b")])]), (1, [(0, "b", 0)])
        )
        frame = [("right", OTHER, ["a"]), ("hide", ["c"]), ("left", M, ["b"]), ("rename", [("b", "y"), ("a", "b")])]
        wanted = rename(beside(M, hide(beside(M, OTHER, ["a"]), ["c"]), ["b"]), [("b", "y"), ("a", "b")])
        self.assertEqual(framed(M, frame), wanted)
        frame = [("left", OTHER, []), ("rename", [("a", "x")]), ("hide", ["b"]), ("right", M, ["a"])]
        wanted = beside(hide(rename(beside(OTHER, M, []), [("a", "x")]), ["b"]), M, ["a"])
        self.assertEqual(framed(M, frame), wanted)

    def test_many_rows(self):
        frame = [("rename", [("a", "b")]), ("rename", [("b", "a")])] * 500
        self.assertEqual(framed((1, [(0, "a", 0)]), frame), (1, [(0, "a", 0)]))

    def test_machines_with_more_steps(self):
        large = full_machine(20, ["*", "a", "b"])
        self.assertEqual(framed(large, [("hide", ["a"]), ("rename", [("b", "c")])]), full_machine(20, ["*", "c"]))
        self.assertEqual(framed((1, []), [("right", full_machine(9, ["a"]), ["a"])]), (9, []))


class Refused(unittest.TestCase):
    def test_another_first_word(self):
        for word in OTHER_WORDS:
            for row in ((word,), (word, ["a"]), (word, OTHER, ["a"]), (word, [("a", "b")])):
                with self.subTest(row=row):
                    assert_refused(self, NoFrame, framed, M, [row])
                    assert_refused(self, NoFrame, framed, M, [("hide", ["a"]), row])

    def test_refusals_of_the_rows_themselves(self):
        assert_refused(self, NoDeed, framed, M, [("right", OTHER, ["*"])])
        assert_refused(self, NoDeed, framed, M, [("left", OTHER, ["a", "A"])])
        assert_refused(self, NoDeed, framed, M, [("hide", ["*"])])
        assert_refused(self, NoDeed, framed, M, [("rename", [("a", "*")])])
        assert_refused(self, TooBig, framed, M, [("right", (11, []), [])])
        assert_refused(self, TooBig, framed, M, [("left", (11, []), [])])

    def test_the_first_row_that_is_refused_tells_the_refusal(self):
        wrong = [
            (NoFrame, ("beside", OTHER, [])),
            (NoDeed, ("hide", ["a", "*"])),
            (NoDeed, ("rename", [("a", "b"), ("", "b")])),
            (TooBig, ("right", (20, []), [])),
            (TooBig, ("left", (20, []), [])),
        ]
        for refusal, row in wrong:
            for other_refusal, other_row in wrong:
                for ahead in ([], [("hide", ["q"])], [("right", (1, []), []), ("rename", [])]):
                    assert_refused(self, refusal, framed, M, ahead + [row, other_row])
                    assert_refused(self, refusal, framed, M, ahead + [row, ("hide", ["b"]), other_row])

    def test_a_row_is_refused_for_what_came_of_those_ahead(self):
        frame = [("right", (3, []), []), ("right", (3, []), [])]
        self.assertEqual(framed((2, []), frame), (18, []))
        assert_refused(self, TooBig, framed, (3, []), frame)


class AskersOwn(unittest.TestCase):
    """[2] of frames."""

    def test_what_is_handed_in_stays_and_so_does_what_is_told(self):
        frames = [
            [],
            [("right", deepcopy(OTHER), ["a"])],
            [("left", deepcopy(OTHER), ["a", "a"]), ("hide", ["b"])],
            [("hide", ["a"])],
            [("rename", [("a", "b"), ("b", "a")])],
        ]
        for frame in frames:
            with self.subTest(frame=frame):
                m = deepcopy(M)
                kept_frame = deepcopy(frame)
                told = framed(m, frame)
                kept = deepcopy(told)
                self.assertEqual((m, frame), (M, kept_frame))
                self.assertEqual(framed(deepcopy(m), deepcopy(frame)), told)
                m[1].append((1, "z", 1))
                for row in frame:
                    row[-1].clear()
                    if row[0] in ("left", "right"):
                        row[1][1].clear()
                frame.clear()
                self.assertEqual(told, kept)

    def test_the_machine_stays_when_what_was_told_is_changed(self):
        m = deepcopy(M)
        told = framed(m, [])
        told[1].clear()
        self.assertEqual(m, M)
        self.assertEqual(framed(m, []), M)

    def test_a_refused_frame_stays(self):
        frame = [("hide", ["a"]), ("rename", [("b", "c")]), ("nothing",)]
        m = deepcopy(M)
        assert_refused(self, NoFrame, framed, m, frame)
        self.assertEqual(m, M)
        self.assertEqual(frame, [("hide", ["a"]), ("rename", [("b", "c")]), ("nothing",)])


if __name__ == "__main__":
    unittest.main()

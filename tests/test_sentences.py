"""[18] scrolls shown and read as text; of [3]: what is shown is read again."""

import re
import unittest
from copy import deepcopy

from kinlook.errors import NoScroll, NoText
from kinlook.scrolls import is_scroll
from kinlook.sentences import read_scroll, show_scroll
from samples import NO_SCROLLS, YES, assert_refused, some_scrolls

ROWS = [
    ("and", ()), ("some", "ab", 0), ("all", "*", 1), ("not", 2), ("and", (0, 3)), ("or", ()), ("or", (5,)),
    ("and", (1, 1, 0)),
]
TEXT = "and; some ab 0; all * 1; not 2; and 0 3; or; or 5; and 1 1 0"
NO_TEXTS = [None, True, False, 0, 1, 1.5, b"and", [], ["and"], (), ROWS, [("and", ())], {}, {"and"}, object(), str]
PRINTABLE = [chr(code) for code in range(32, 127)]


class Shown(unittest.TestCase):
    def test_ordinary_ones(self):
        self.assertEqual(show_scroll(ROWS), TEXT)
        self.assertEqual(show_scroll([("and", ())]), "and")
        self.assertEqual(show_scroll([("or", ())]), "or")
        self.assertEqual(show_scroll([YES, ("some", "some", 0)]), "and; some some 0")

    def test_large_numbers(self):
        rows = [YES] * 1999
        self.assertEqual(show_scroll(rows + [("not", 1998)]), "and; " * 1999 + "not 1998")
        self.assertEqual(show_scroll(rows + [("or", (1000, 10, 999))]), "and; " * 1999 + "or 1000 10 999")

    def test_whatever_is_no_scroll(self):
        for thing in NO_SCROLLS:
            with self.subTest(thing=str(thing)[:80]):
                assert_refused(self, NoScroll, show_scroll, thing)


class Read(unittest.TestCase):
    def test_ordinary_ones(self):
        self.assertEqual(read_scroll(TEXT), ROWS)
        self.assertEqual(read_scroll("or"), [("or", ())])
        self.assertEqual(read_scroll("and; all all 0; some not 1"), [YES, ("all", "all", 0), ("some", "not", 1)])

    def test_the_kinds_of_what_is_told(self):
        told = read_scroll(TEXT)
        self.assertIs(type(told), list)
        self.assertEqual({type(row) for row in told}, {tuple})
        self.assertIs(type(told[4][1]), tuple)
        self.assertEqual([type(thing) for thing in told[1]], [str, str, int])
        self.assertEqual({type(part) for part in told[7][1]}, {int})

    def test_what_is_shown_is_read_again(self):
        scrolls = some_scrolls(300) + [ROWS, [YES] * 2000, [YES, ("or", (0,) * 200)]]
        scrolls.append([YES] * 1999 + [("and", (1998, 0, 999))])
        for scroll in scrolls:
            self.assertEqual(read_scroll(show_scroll(scroll)), scroll)
            self.assertEqual(show_scroll(read_scroll(show_scroll(scroll))), show_scroll(scroll))


class NoTexts(unittest.TestCase):
    def refuse(self, texts):
        for text in texts:
            with self.subTest(text=text):
                assert_refused(self, NoText, read_scroll, text)

    def test_things_that_are_no_text(self):
        self.refuse(NO_TEXTS)

    def test_texts_without_rows(self):
        self.refuse(["", " ", ";", "; ", ";;", "; and", "and;", "and; ", "and;; and", "and; ; and", " and", "and "])

    def test_between_rows(self):
        self.refuse(["and" + mid + "or" for mid in (";", " ;", " ; ", ";  ", ", ", " ", "", ";\n", "\n", ";;", ": ")])

    def test_words(self):
        self.refuse(["And", "AND", "nand", "yes", "no", "both", "either", "a", "*", "0", "1 0", "some", "all", "not"])
        self.refuse(["and; " + row for row in (
            "some a", "some 0", "some a 0 0", "some a 0 a", "some a b 0", "all a", "all 0 a", "all * 0 0", "not 0 0",
            "not a", "not a 0", "not *", "and a", "or 0 a", "or * 0", "and 0  0", "or  0", "and 0 ", "not  0", "not 0 ",
            "some  a 0", "some a  0", "some a 0 ", "some a", "yes 0", "both 0 0", "nor 0", "and 0,0", "and (0)", "not -0",
        )])

    def test_numbers(self):
        for word in ("", "a", "*", "-1", "+1", "-0", "1.0", "1_0", "0x1", "1e1", "\u0663", "\u00b2", "00", "01", "000", "10000"):
            self.refuse(["and; not " + word, "and; some a " + word, "and; all a " + word, "and; and " + word])
            self.refuse(["and; or 0 " + word, "and; and " + word + " 0"])

    def test_deeds(self):
        for word in ("", "abcdefg", "A", "aB", "a1", "1", "**", "a*", "_", "a;", ";", "\u00e4"):
            self.refuse(["and; some " + word + " 0", "and; all " + word + " 0"])

    def test_a_sign_more_or_less_or_another_one_at_any_place(self):
        """Each text near the sample is read just where it is of the form, as a pattern tells it."""
        number = "(0|[1-9][0-9]{0,3})"
        row = r"((some|all) (\*|[a-z]{1,6}) " + number + "|not " + number + "|(and|or)( " + number + ")*)"
        form = re.compile(row + "(; " + row + ")*")
        for place in range(len(TEXT) + 1):
            near = [TEXT[:place] + TEXT[place + 1:]]
            for sign in PRINTABLE:
                near.append(TEXT[:place] + sign + TEXT[place:])
                near.append(TEXT[:place] + sign + TEXT[place + 1:])
            for text in near:
                if form.fullmatch(text) is None:
                    assert_refused(self, NoText, read_scroll, text)
                else:
                    self.read_or_refuse(text)

    def read_or_refuse(self, text):
        rows = []
        for part in text.split("; "):
            words = part.split(" ")
            if words[0] in ("some", "all"):
                rows.append((words[0], words[1], int(words[2])))
            elif words[0] == "not":
                rows.append((words[0], int(words[1])))
            else:
                rows.append((words[0], tuple(int(word) for word in words[1:])))
        if is_scroll(rows):
            self.assertEqual(read_scroll(text), rows)
        else:
            assert_refused(self, NoScroll, read_scroll, text)


class NoScrolls(unittest.TestCase):
    def test_rows_that_draw_on_none_ahead(self):
        for text in ("not 0", "and 0", "or 0 0", "some a 0", "all * 0", "and; not 1", "and; or 0 1", "and; some a 9999",
                     "and; not 2; or", "and; and 1000", "and; not 9999"):
            with self.subTest(text=text):
                assert_refused(self, NoScroll, read_scroll, text)

    def test_how_many_rows_and_parts(self):
        self.assertEqual(len(read_scroll("or" + "; or" * 1999)), 2000)
        assert_refused(self, NoScroll, read_scroll, "or" + "; or" * 2000)
        self.assertEqual(read_scroll("or; and" + " 0" * 200), [("or", ()), ("and", (0,) * 200)])
        assert_refused(self, NoScroll, read_scroll, "or; and" + " 0" * 201)

    def test_no_text_ahead_of_no_scroll(self):
        for text in ("not 0; ", "not 0; yes", "not 5; not 01", "some a 7; some A 0", "or" + "; or" * 2000 + ";",
                     "and 0; some a 10000", "or; and" + " 0" * 201 + " a"):
            with self.subTest(text=text[:40]):
                assert_refused(self, NoText, read_scroll, text)


class AskersOwn(unittest.TestCase):
    """[2] of scrolls as text."""

    def test_the_scroll_shown_stays(self):
        scroll = deepcopy(ROWS)
        told = show_scroll(scroll)
        self.assertEqual(scroll, ROWS)
        scroll.clear()
        self.assertEqual(told, TEXT)

    def test_what_is_read_is_the_askers_own(self):
        first = read_scroll(TEXT)
        first.append(("not", 0))
        self.assertEqual(read_scroll(TEXT), ROWS)
        first.clear()
        self.assertEqual(read_scroll(TEXT), ROWS)


if __name__ == "__main__":
    unittest.main()

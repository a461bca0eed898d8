"""[4] deeds."""

import unittest

from kinlook.deeds import HIDDEN, is_deed, is_open

OPEN = ["a", "z", "m", "ab", "abc", "abcd", "abcde", "abcdef", "zzzzzz", "yes", "some"]
NO_DEEDS = [
    "", "abcdefg", "aaaaaaaaaaaaaaaaaaaa", "A", "Z", "aB", "abcdeF", "a1", "0", "7", "a b", " a", "a ", " ", "a*", "*a",
    "**", "* ", " *", "a_b", "a-b", "a,", "a:", "`", "{", "~", "\n", "a\n", "\u00e4", "\u00df", "a\u00e9", "\uff41",
    None, True, False, 0, 1, -1, 1.5, b"a", b"*", [], ["a"], (), ("a",), {}, {"a": 1}, {"a"}, object(), str, len,
]


class Deeds(unittest.TestCase):
    def test_hidden_is_the_star(self):
        self.assertEqual(HIDDEN, "*")

    def test_open_deeds(self):
        for thing in OPEN:
            with self.subTest(thing=thing):
                self.assertIs(is_open(thing), True)
                self.assertIs(is_deed(thing), True)

    def test_each_small_letter_is_one(self):
        for code in range(128):
            sign = chr(code)
            with self.subTest(sign=sign):
                self.assertIs(is_open(sign), "a" <= sign <= "z")
                self.assertIs(is_open("ab" + sign + "cd"), "a" <= sign <= "z")

    def test_lengths(self):
        for many in range(12):
            with self.subTest(many=many):
                self.assertIs(is_open("q" * many), 1 <= many <= 6)
                self.assertIs(is_deed("q" * many), 1 <= many <= 6)

    def test_the_hidden_deed_is_a_deed_but_not_open(self):
        self.assertIs(is_open("*"), False)
        self.assertIs(is_deed("*"), True)

    def test_whatever_is_no_deed(self):
        for thing in NO_DEEDS:
            with self.subTest(thing=thing):
                self.assertIs(is_open(thing), False)
                self.assertIs(is_deed(thing), False)

    def test_nothing_is_changed(self):
        thing = ["a"]
        is_open(thing)
        is_deed(thing)
        self.assertEqual(thing, ["a"])


if __name__ == "__main__":
    unittest.main()

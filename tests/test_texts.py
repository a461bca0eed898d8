"""[9] a machine shown as text; [10] a text read to a machine; of [3]: what is shown is read again."""

import re
import unittest

from kinlook.errors import NoMachine, NoText, TooBig
from kinlook.machines import made
from kinlook.texts import read, shown
from samples import assert_refused, full_machine, line_machines, small_machines, some_steps

SAMPLE = "3: 0 * 1, 0 a 2, 2 ab 0"
MACHINE = (3, [(0, "*", 1), (0, "a", 2), (2, "ab", 0)])
PRINTABLE = [chr(code) for code in range(32, 127)]


def text_of(many, steps):
    """The form of [9], written apart from the program."""
    parts = ["%d %s %d" % step for step in steps]
    return str(many) + ":" + (" " + ", ".join(parts) if parts else "")


class Shown(unittest.TestCase):
    def test_the_documents_own(self):
        self.assertEqual(shown(MACHINE), SAMPLE)
        self.assertEqual(shown((1, [])), "1:")

    def test_others(self):
        self.assertEqual(shown((20, [])), "20:")
        self.assertEqual(shown((1, [(0, "*", 0)])), "1: 0 * 0")
        self.assertEqual(shown((20, [(9, "abcdef", 19), (10, "z", 0)])), "20: 9 abcdef 19, 10 z 0")

    def test_machines_with_more_steps(self):
        large = full_machine(20, ["*", "a", "b", "c", "d", "e", "f"])
        self.assertEqual(shown(large), text_of(*large))


class Read(unittest.TestCase):
    def test_the_documents_own(self):
        self.assertEqual(read(SAMPLE), MACHINE)
        self.assertEqual(read("1:"), (1, []))

    def test_in_whatever_order_and_however_often(self):
        self.assertEqual(read("3: 2 ab 0, 0 a 2, 0 * 1"), MACHINE)
        self.assertEqual(read("3: 2 ab 0, 0 a 2, 2 ab 0, 0 * 1, 0 a 2"), MACHINE)
        self.assertEqual(read("11: 10 a 9, 9 a 10"), (11, [(9, "a", 10), (10, "a", 9)]))

    def test_deeds_of_one_and_six_letters(self):
        self.assertEqual(read("1: 0 a 0, 0 abcdef 0"), (1, [(0, "a", 0), (0, "abcdef", 0)]))

    def test_the_kinds_of_what_is_told(self):
        m = read(SAMPLE)
        self.assertEqual([type(m), type(m[0]), type(m[1]), type(m[1][0])], [tuple, int, list, tuple])
        self.assertEqual([type(thing) for thing in m[1][0]], [int, str, int])

    def test_what_is_shown_is_read_again(self):
        machines = small_machines() + line_machines()
        machines.append((20, some_steps(80)))
        machines.append(made(20, [(k, deed, 19 - k) for k in range(10) for deed in ("*", "a", "q", "zzzzzz")]))
        machines.append((1, [(0, deed, 0) for deed in ("*", "a", "abcdef", "b", "c", "d", "e")]))
        for m in machines:
            self.assertEqual(shown(m), text_of(*m))
            self.assertEqual(read(shown(m)), m)
            self.assertEqual(shown(read(shown(m))), shown(m))


class NoTexts(unittest.TestCase):
    def refuse(self, texts):
        for text in texts:
            with self.subTest(text=text):
                assert_refused(self, NoText, read, text)

    def test_things_that_are_no_text(self):
        self.refuse([None, True, False, 0, 1, 1.5, b"1:", [], ["1:"], (), (1, []), MACHINE, {}, {"1:"}, object(), str])

    def test_many(self):
        self.refuse(["", ":", " ", "1", "3 0 * 1", "a:", "*:", "-1:", "+1:", "1.0:", "1_0:", " 1:", "1 :", "1 1:", "1,:"])

    def test_behind_the_colon(self):
        self.refuse(["1: ", "1:  ", "1::", "1: :", "1:,", "1: ,", "1:, ", "1: , ", "1:a", "1: a", "1:\n", "1: 0", "1: 0 a"])
        self.refuse(["1:0 a 0", "1:  0 a 0", "1:\t0 a 0", "1:, 0 a 0", "1: , 0 a 0"])

    def test_steps(self):
        self.refuse(["1: 0 a 0 0", "1: 0  a 0", "1: 0 a  0", "1: 0 a 0 ", "1: 0 0 a", "1: a 0 0", "1: 0 0 0", "1: a a a"])
        self.refuse(["1: (0, 'a', 0)", "1: 0\ta\t0", "1: 0 a 0\n", "1: 0a0", "1: 0 a0", "1: 0a 0"])

    def test_between_steps(self):
        first = "1: 0 a 0"
        self.refuse([first + end for end in (",", ", ", " ,", ",,", ", ,", ";", ".", ":", ", 0", ", 0 a", ", 0 a 0,")])
        self.refuse([first + mid + "0 b 0" for mid in (",", " ", " , ", ",  ", ",, ", ", , ", "; ", ",\n", ": ", "")])

    def test_words_that_are_no_deeds(self):
        for word in ("", "abcdefg", "A", "aB", "a1", "1", "**", "a*", "_", "-", "a-b", "a.", "a:", ":", "\u00e4", "\uff41"):
            self.refuse(["1: 0 " + word + " 0", "1: 0 a 0, 0 " + word + " 0"])

    def test_numbers_that_are_none(self):
        for word in ("", "a", "*", "-1", "+1", "-0", "1.0", "1_0", "0x1", "1e1", "\u0663", "\u00b2", "\uff11", "00", "01"):
            self.refuse([word + ":", word + ": 0 a 0", "1: " + word + " a 0", "1: 0 a " + word])

    def test_a_sign_more_or_less_or_another_one_at_any_place(self):
        """Each text near the sample is read just where it is of the form, as a pattern tells it."""
        number = "(0|[1-9][0-9]{0,3})"
        step = number + r" (\*|[a-z]{1,6}) " + number
        form = re.compile(number + ":( " + step + "(, " + step + ")*)?")
        near = []
        for place in range(len(SAMPLE) + 1):
            near.append(SAMPLE[:place] + SAMPLE[place + 1:])
            for sign in PRINTABLE:
                near.append(SAMPLE[:place] + sign + SAMPLE[place:])
                near.append(SAMPLE[:place] + sign + SAMPLE[place + 1:])
        for text in near:
            if form.fullmatch(text) is None:
                assert_refused(self, NoText, read, text)
            else:
                self.read_or_refuse_as_made(text)

    def read_or_refuse_as_made(self, text):
        many, parts = text.split(":")
        steps = []
        for part in parts.strip().split(", ") if parts else []:
            start, deed, end = part.split(" ")
            steps.append((int(start), deed, int(end)))
        try:
            wanted = made(int(many), steps)
        except (NoMachine, TooBig) as refusal:
            assert_refused(self, type(refusal), read, text)
        else:
            self.assertEqual(read(text), wanted)


class Numbers(unittest.TestCase):
    def test_noughts(self):
        self.assertEqual(read("2: 0 a 1"), (2, [(0, "a", 1)]))
        self.assertEqual(read("20: 10 a 0"), (20, [(10, "a", 0)]))
        for text in ("02:", "00:", "2: 00 a 1", "2: 0 a 01", "2: 0 a 00", "0002:", "2: 0 a 0001"):
            assert_refused(self, NoText, read, text)
        assert_refused(self, NoMachine, read, "0:")
        assert_refused(self, NoMachine, read, "0: 0 a 0")

    def test_four_and_five_figures(self):
        assert_refused(self, TooBig, read, "9999:")
        assert_refused(self, TooBig, read, "1000: 999 a 0")
        assert_refused(self, TooBig, read, "9999: 9998 a 9998")
        assert_refused(self, NoMachine, read, "2: 9999 a 0")
        assert_refused(self, NoMachine, read, "2: 0 a 1000")
        assert_refused(self, NoText, read, "10000:")
        assert_refused(self, NoText, read, "2: 10000 a 0")
        assert_refused(self, NoText, read, "2: 0 a 99999")


class OrderOfRefusals(unittest.TestCase):
    def test_states_just_below_many_and_many_itself(self):
        for many in (1, 2, 10, 20):
            last = many - 1
            self.assertEqual(read("%d: %d a %d" % (many, last, last)), (many, [(last, "a", last)]))
            assert_refused(self, NoMachine, read, "%d: %d a 0" % (many, many))
            assert_refused(self, NoMachine, read, "%d: 0 a %d" % (many, many))

    def test_too_big(self):
        self.assertEqual(read("20:"), (20, []))
        assert_refused(self, TooBig, read, "21:")
        self.assertEqual(read(text_of(20, some_steps(80) * 2)), (20, some_steps(80)))
        assert_refused(self, TooBig, read, text_of(20, some_steps(81)))
        six = "1: 0 a 0, 0 b 0, 0 c 0, 0 d 0, 0 e 0, 0 f 0"
        self.assertEqual(len(read(six + ", 0 * 0")[1]), 7)
        assert_refused(self, TooBig, read, six + ", 0 g 0")

    def test_no_text_ahead_of_no_machine(self):
        for text in ("0: ", "0: 0 A 0", "1: 1 a 0, 0 a", "1: 5 a 5,", "0: 0 a 00"):
            assert_refused(self, NoText, read, text)

    def test_no_text_ahead_of_too_big(self):
        for text in ("21: ", "21: 0 A 0", text_of(20, some_steps(81)) + ",", "9999: 0 a 10000"):
            assert_refused(self, NoText, read, text)

    def test_no_machine_ahead_of_too_big(self):
        assert_refused(self, NoMachine, read, "21: 0 a 21")
        assert_refused(self, NoMachine, read, text_of(20, some_steps(81)) + ", 0 a 20")
        assert_refused(self, NoMachine, read, "1: 0 a 0, 0 b 0, 0 c 0, 0 d 0, 0 e 0, 0 f 0, 0 g 0, 1 a 0")


class AskersOwn(unittest.TestCase):
    """[2] of shown and read."""

    def test_the_machine_shown_stays(self):
        m = (2, [(0, "*", 1), (1, "a", 0)])
        told = shown(m)
        self.assertEqual(m, (2, [(0, "*", 1), (1, "a", 0)]))
        m[1].clear()
        self.assertEqual(told, "2: 0 * 1, 1 a 0")
        self.assertEqual(shown(m), "2:")

    def test_what_is_read_is_the_askers_own(self):
        for text in (SAMPLE, "3:"):
            first = read(text)
            kept = (first[0], list(first[1]))
            first[1].append((0, "b", 0))
            self.assertEqual(read(text), kept)
            self.assertEqual(shown(read(text)), text)


if __name__ == "__main__":
    unittest.main()

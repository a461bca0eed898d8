"""[5] and [6]: what a machine is, how it is made, and what is refused."""

import unittest
from itertools import permutations

from kinlook.errors import NoMachine, TooBig
from kinlook.machines import made
from samples import assert_refused, small_machines, some_steps

SIX = ["a", "b", "c", "d", "e", "abcdef"]
NO_WHOLES = [True, False, None, 1.0, 2.5, "1", "a", b"1", [], [1], (), (1,), {}, {1}, object(), int, 1j]


class Made(unittest.TestCase):
    def test_an_ordinary_one(self):
        self.assertEqual(
            made(3, [(2, "ab", 0), (0, "a", 2), (0, "*", 1)]),
            (3, [(0, "*", 1), (0, "a", 2), (2, "ab", 0)]),
        )

    def test_the_kinds_of_what_is_told(self):
        m = made(2, [(1, "a", 0), (0, "a", 1)])
        self.assertIs(type(m), tuple)
        self.assertIs(type(m[0]), int)
        self.assertIs(type(m[1]), list)
        self.assertEqual([type(step) for step in m[1]], [tuple, tuple])

    def test_without_steps(self):
        self.assertEqual(made(1, []), (1, []))
        self.assertEqual(made(20, []), (20, []))

    def test_the_order_by_from_then_deed_then_to(self):
        steps = [(0, "*", 1), (0, "a", 0), (0, "a", 10), (0, "ab", 0), (0, "b", 2), (2, "*", 0), (10, "*", 0)]
        for start in range(len(steps)):
            turned = steps[start:] + steps[:start]
            self.assertEqual(made(11, turned), (11, steps))
            self.assertEqual(made(11, turned[::-1]), (11, steps))

    def test_whatever_the_order(self):
        steps = [(0, "*", 1), (0, "a", 1), (1, "a", 0), (1, "a", 1)]
        for order in permutations(steps):
            self.assertEqual(made(2, list(order)), (2, steps))

    def test_each_however_often(self):
        self.assertEqual(made(2, [(1, "a", 0), (0, "a", 1), (1, "a", 0)]), (2, [(0, "a", 1), (1, "a", 0)]))
        self.assertEqual(made(1, [(0, "*", 0)] * 3000), (1, [(0, "*", 0)]))

    def test_a_machine_is_made_of_its_own_parts(self):
        for m in small_machines():
            self.assertEqual(made(m[0], m[1][::-1] + m[1]), m)

    def test_states_just_below_many_and_many_itself(self):
        for many in (1, 2, 19, 20):
            last = many - 1
            self.assertEqual(made(many, [(last, "a", last)]), (many, [(last, "a", last)]))
            assert_refused(self, NoMachine, made, many, [(many, "a", 0)])
            assert_refused(self, NoMachine, made, many, [(0, "a", many)])
            assert_refused(self, NoMachine, made, many, [(-1, "a", 0)])
            assert_refused(self, NoMachine, made, many, [(0, "a", -1)])


class NoMachines(unittest.TestCase):
    def test_many_below_one(self):
        for many in (0, -1, -20, -(10 ** 50)):
            assert_refused(self, NoMachine, made, many, [])

    def test_many_that_is_no_whole_number(self):
        for many in NO_WHOLES:
            with self.subTest(many=many):
                assert_refused(self, NoMachine, made, many, [])
                assert_refused(self, NoMachine, made, many, [(0, "a", 0)])

    def test_steps_that_are_no_list(self):
        step = (0, "a", 0)
        for steps in ((), (step,), {}, {step: 1}, {step}, None, "", "0 a 0", 0, True, iter([step]), object(), list):
            with self.subTest(steps=steps):
                assert_refused(self, NoMachine, made, 1, steps)

    def test_steps_that_are_no_tuples_of_three(self):
        wrong = [
            [0, "a", 0], (), (0,), (0, "a"), (0, "a", 0, 0), (0, 0), "0a0", "0 a 0", None, 0, True, {}, [], set(),
            {0: 1, 1: "a", 2: 0}, ((0, "a", 0),), b"0a0", object(),
        ]
        for step in wrong:
            with self.subTest(step=step):
                assert_refused(self, NoMachine, made, 2, [step])

    def test_steps_whose_states_are_none(self):
        for thing in NO_WHOLES + [-1, 2, 3, 10 ** 50]:
            with self.subTest(thing=thing):
                assert_refused(self, NoMachine, made, 2, [(thing, "a", 0)])
                assert_refused(self, NoMachine, made, 2, [(0, "a", thing)])

    def test_steps_whose_deeds_are_none(self):
        for thing in ["", "abcdefg", "A", "a1", "**", " ", "a ", None, 0, 1, True, b"a", [], ["a"], ("a",), {}, object()]:
            with self.subTest(thing=thing):
                assert_refused(self, NoMachine, made, 2, [(0, thing, 1)])

    def test_a_wrong_step_at_each_place(self):
        good = some_steps(5)
        for place in range(len(good) + 1):
            for wrong in [(0, "a", 20), (True, "a", 0), [0, "a", 0], (0, "A", 0)]:
                assert_refused(self, NoMachine, made, 20, good[:place] + [wrong] + good[place:])

    def test_a_truth_beside_its_equal_step(self):
        assert_refused(self, NoMachine, made, 2, [(1, "a", 0), (True, "a", 0)])
        assert_refused(self, NoMachine, made, 2, [(0, "a", 0), (0, "a", False)])


class TooBigOnes(unittest.TestCase):
    def test_states(self):
        self.assertEqual(made(20, []), (20, []))
        for many in (21, 22, 100, 10 ** 50):
            assert_refused(self, TooBig, made, many, [])
        assert_refused(self, TooBig, made, 21, [(20, "a", 20)])

    def test_different_steps(self):
        for count in (79, 80):
            self.assertEqual(made(20, some_steps(count)), (20, some_steps(count)))
        for count in (81, 82, 400):
            assert_refused(self, TooBig, made, 20, some_steps(count))

    def test_more_than_eighty_of_which_at_most_eighty_are_different(self):
        steps = some_steps(80)
        self.assertEqual(made(20, steps + steps[:1]), (20, steps))
        self.assertEqual(made(20, steps[::-1] * 30), (20, steps))
        assert_refused(self, TooBig, made, 20, some_steps(81) * 2)

    def test_six_and_seven_open_deeds(self):
        six = [(0, deed, 0) for deed in SIX]
        self.assertEqual(made(1, six), (1, sorted(six)))
        self.assertEqual(made(1, six + [(0, "*", 0)]), (1, sorted(six + [(0, "*", 0)])))
        assert_refused(self, TooBig, made, 1, six + [(0, "f", 0)])
        assert_refused(self, TooBig, made, 1, six + [(0, "*", 0), (0, "f", 0)])

    def test_open_deeds_of_whatever_state_count(self):
        steps = [(k, deed, 0) for k, deed in enumerate(SIX)]
        self.assertEqual(made(7, steps * 2), (7, sorted(steps)))
        assert_refused(self, TooBig, made, 7, steps + [(6, "g", 6)])

    def test_no_machine_goes_ahead_of_too_big(self):
        assert_refused(self, NoMachine, made, 21, ())
        assert_refused(self, NoMachine, made, 21, [(0, "a", 21)])
        assert_refused(self, NoMachine, made, 20, some_steps(81) + [(0, "A", 0)])
        assert_refused(self, NoMachine, made, 20, some_steps(81) + [[0, "a", 0]])
        seven = [(0, deed, 0) for deed in SIX + ["f"]]
        assert_refused(self, NoMachine, made, 1, seven + [(0, "a", True)])


class AskersOwn(unittest.TestCase):
    """[2] of made."""

    def test_what_is_handed_in_stays(self):
        steps = [(1, "a", 0), (0, "*", 1), (1, "a", 0)]
        made(2, steps)
        self.assertEqual(steps, [(1, "a", 0), (0, "*", 1), (1, "a", 0)])

    def test_refused_lists_stay(self):
        for steps in ([(1, "a", 0), (0, "A", 1), (1, "a", 0)], some_steps(81)[::-1]):
            kept = list(steps)
            with self.assertRaises(ValueError):
                made(20, steps)
            self.assertEqual(steps, kept)

    def test_what_was_told_stays(self):
        steps = [(0, "a", 1)]
        m = made(2, steps)
        steps.append((1, "a", 1))
        self.assertEqual(m, (2, [(0, "a", 1)]))
        steps.clear()
        self.assertEqual(m, (2, [(0, "a", 1)]))

    def test_asked_again_the_same_and_not_one_list(self):
        steps = [(0, "a", 1), (1, "*", 0)]
        first = made(2, steps)
        second = made(2, steps)
        self.assertEqual(first, second)
        first[1].clear()
        self.assertEqual(second, (2, steps))
        self.assertEqual(made(2, steps), (2, steps))


if __name__ == "__main__":
    unittest.main()

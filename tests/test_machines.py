"""[7] and [8]: states after a state, states met, trimmed and joined; [5] of machines with more steps."""

import unittest
from copy import deepcopy

from kinlook.errors import NoState, TooBig
from kinlook.machines import after, deeds_of, joined, made, met, trimmed
from samples import assert_refused, full_machine, line_machines, small_machines, some_steps

ROUND = (4, [(0, "*", 1), (0, "a", 0), (0, "a", 2), (0, "ab", 3), (2, "a", 1)])
# An eased machine may have as many steps as its states and deeds allow.
LARGE = full_machine(20, ["*", "a", "b", "c", "d", "e", "f"])


def reached(m):
    """The states met, by the words of [8]: as many steps as there are states are enough."""
    states = {0}
    for turn in range(m[0]):
        states = states | {step[2] for step in m[1] if step[0] in states}
    return sorted(states)


class After(unittest.TestCase):
    def test_ordinary_ones(self):
        self.assertEqual(after(ROUND, 0, "a"), [0, 2])
        self.assertEqual(after(ROUND, 0, "*"), [1])
        self.assertEqual(after(ROUND, 0, "ab"), [3])
        self.assertEqual(after(ROUND, 2, "a"), [1])

    def test_no_step_with_the_deed(self):
        self.assertEqual(after(ROUND, 0, "b"), [])
        self.assertEqual(after(ROUND, 1, "a"), [])
        self.assertEqual(after(ROUND, 2, "*"), [])
        self.assertEqual(after(ROUND, 3, "ab"), [])
        self.assertEqual(after((1, []), 0, "a"), [])

    def test_hidden_steps_are_not_gone_on_the_way(self):
        self.assertEqual(after((3, [(0, "*", 1), (1, "a", 2)]), 0, "a"), [])

    def test_rising(self):
        m = made(20, [(3, "a", to) for to in (11, 2, 19, 0, 10)])
        self.assertEqual(after(m, 3, "a"), [0, 2, 10, 11, 19])

    def test_all_small_machines(self):
        for m in small_machines():
            for state in range(m[0]):
                for deed in ("*", "a", "b"):
                    wanted = [to for to in range(m[0]) if (state, deed, to) in m[1]]
                    self.assertEqual(after(m, state, deed), wanted)

    def test_machines_with_more_steps(self):
        self.assertEqual(after(LARGE, 19, "f"), list(range(20)))
        self.assertEqual(after(LARGE, 0, "*"), list(range(20)))


class NoStates(unittest.TestCase):
    def test_below_nought(self):
        for state in (-1, -2, -4, -(10 ** 50)):
            assert_refused(self, NoState, after, ROUND, state, "a")

    def test_just_below_many_and_many_itself(self):
        for many in (1, 2, 20):
            m = made(many, [(many - 1, "a", 0)])
            self.assertEqual(after(m, many - 1, "a"), [0])
            for state in (many, many + 1, 10 ** 50):
                assert_refused(self, NoState, after, m, state, "a")
        assert_refused(self, NoState, after, LARGE, 20, "a")

    def test_refused_whatever_the_deed(self):
        for deed in ("*", "a", "zz"):
            assert_refused(self, NoState, after, (1, []), 1, deed)


class DeedsOf(unittest.TestCase):
    def test_sorted_and_each_once(self):
        self.assertEqual(deeds_of(ROUND), ["*", "a", "ab"])
        self.assertEqual(deeds_of(made(3, [(0, "z", 1), (1, "b", 0), (2, "z", 2), (2, "*", 0)])), ["*", "b", "z"])

    def test_without_steps_and_without_hidden_ones(self):
        self.assertEqual(deeds_of((1, [])), [])
        self.assertEqual(deeds_of((20, [])), [])
        self.assertEqual(deeds_of((1, [(0, "b", 0)])), ["b"])

    def test_of_states_not_met_too(self):
        self.assertEqual(deeds_of((2, [(1, "a", 1)])), ["a"])

    def test_machines_with_more_steps(self):
        self.assertEqual(deeds_of(LARGE), ["*", "a", "b", "c", "d", "e", "f"])


class Met(unittest.TestCase):
    def test_ordinary_ones(self):
        self.assertEqual(met(ROUND), [0, 1, 2, 3])
        self.assertEqual(met((4, [(0, "a", 3), (3, "*", 1), (2, "a", 0)])), [0, 1, 3])

    def test_nought_alone(self):
        self.assertEqual(met((1, [])), [0])
        self.assertEqual(met((20, [])), [0])
        self.assertEqual(met((3, [(0, "a", 0), (1, "a", 0), (2, "*", 1)])), [0])

    def test_a_long_way_down_and_up(self):
        up = made(20, [(k, "a", k + 1) for k in range(19)])
        self.assertEqual(met(up), list(range(20)))
        down = made(20, [(0, "*", 19)] + [(k, "a", k - 1) for k in range(11, 20)])
        self.assertEqual(met(down), [0] + list(range(10, 20)))

    def test_all_small_machines(self):
        for m in small_machines() + line_machines():
            self.assertEqual(met(m), reached(m))

    def test_machines_with_more_steps(self):
        self.assertEqual(met(LARGE), list(range(20)))


class Trimmed(unittest.TestCase):
    def test_an_ordinary_one(self):
        m = (5, [(0, "a", 4), (1, "a", 0), (2, "*", 0), (2, "b", 4), (4, "*", 2), (4, "a", 4)])
        self.assertEqual(trimmed(m), (3, [(0, "a", 2), (1, "*", 0), (1, "b", 2), (2, "*", 1), (2, "a", 2)]))

    def test_all_met_stays_equal(self):
        self.assertEqual(trimmed(ROUND), ROUND)
        self.assertEqual(trimmed((1, [])), (1, []))

    def test_steps_from_states_not_met_go(self):
        self.assertEqual(trimmed((3, [(1, "a", 0), (1, "a", 2), (2, "a", 1)])), (1, []))
        self.assertEqual(trimmed((20, [])), (1, []))

    def test_all_small_machines(self):
        for m in small_machines() + line_machines():
            states = reached(m)
            steps = [
                (states.index(step[0]), step[1], states.index(step[2]))
                for step in m[1]
                if step[0] in states and step[2] in states
            ]
            told = trimmed(m)
            self.assertEqual(told, (len(states), sorted(steps)))
            self.assertEqual(told, made(told[0], told[1]))
            self.assertEqual(trimmed(told), told)

    def test_machines_with_more_steps(self):
        self.assertEqual(trimmed(LARGE), LARGE)
        self.assertEqual(trimmed((20, some_steps(400)[20:])), (1, []))
        inner = full_machine(10, ["*", "a", "b"])
        self.assertEqual(trimmed((20, inner[1] + [(15, "a", 3)])), inner)


class Joined(unittest.TestCase):
    def test_an_ordinary_one(self):
        one = (2, [(0, "a", 1), (1, "*", 0)])
        other = (3, [(0, "a", 2), (1, "b", 0)])
        self.assertEqual(joined(one, other), (5, [(0, "a", 1), (1, "*", 0), (2, "a", 4), (3, "b", 2)]))
        self.assertEqual(joined(other, one), (5, [(0, "a", 2), (1, "b", 0), (3, "a", 4), (4, "*", 3)]))

    def test_without_steps(self):
        self.assertEqual(joined((1, []), (1, [])), (2, []))
        self.assertEqual(joined((1, []), (1, [(0, "a", 0)])), (2, [(1, "a", 1)]))
        self.assertEqual(joined((1, [(0, "a", 0)]), (1, [])), (2, [(0, "a", 0)]))

    def test_all_small_machines(self):
        machines = small_machines()
        for one in machines[::5]:
            for other in machines[::3]:
                steps = list(one[1])
                for step in other[1]:
                    steps.append((step[0] + one[0], step[1], step[2] + one[0]))
                told = joined(one, other)
                self.assertEqual(told, made(one[0] + other[0], steps))

    def test_states(self):
        self.assertEqual(joined((19, []), (1, [])), (20, []))
        self.assertEqual(joined((10, []), (10, [])), (20, []))
        assert_refused(self, TooBig, joined, (20, []), (1, []))
        assert_refused(self, TooBig, joined, (1, []), (20, []))
        assert_refused(self, TooBig, joined, (10, []), (11, []))

    def test_steps(self):
        forty = made(10, some_steps(40, 10))
        more = made(10, some_steps(41, 10))
        self.assertEqual(len(joined(forty, forty)[1]), 80)
        assert_refused(self, TooBig, joined, forty, more)
        assert_refused(self, TooBig, joined, more, forty)

    def test_open_deeds(self):
        four = made(1, [(0, deed, 0) for deed in ("a", "b", "c", "d", "*")])
        two = made(1, [(0, deed, 0) for deed in ("e", "f", "*")])
        three = made(1, [(0, deed, 0) for deed in ("e", "f", "g")])
        shared = made(1, [(0, deed, 0) for deed in ("b", "c", "f", "g")])
        self.assertEqual(deeds_of(joined(four, two)), ["*", "a", "b", "c", "d", "e", "f"])
        self.assertEqual(deeds_of(joined(four, shared)), ["*", "a", "b", "c", "d", "f", "g"])
        assert_refused(self, TooBig, joined, four, three)
        assert_refused(self, TooBig, joined, three, four)

    def test_machines_with_more_steps(self):
        large = full_machine(9, ["a"])
        self.assertEqual(len(large[1]), 81)
        assert_refused(self, TooBig, joined, large, (1, []))
        assert_refused(self, TooBig, joined, (1, []), large)


class AskersOwn(unittest.TestCase):
    """[2] of the questions to machines."""

    def calls(self):
        return [
            ("after", lambda m: after(m, 0, "a")),
            ("deeds_of", deeds_of),
            ("met", met),
            ("trimmed", trimmed),
            ("joined, as the one", lambda m: joined(m, (1, []))),
            ("joined, as the other", lambda m: joined((1, []), m)),
            ("joined, as both", lambda m: joined(m, m)),
        ]

    def test_what_is_handed_in_stays(self):
        for name, call in self.calls():
            for m in [ROUND, (3, [(0, "a", 2), (1, "a", 0)]), (1, [])]:
                with self.subTest(name=name, m=m):
                    kept = deepcopy(m)
                    call(m)
                    self.assertEqual(m, kept)

    def test_what_was_told_stays_when_the_machine_is_changed(self):
        for name, call in self.calls():
            with self.subTest(name=name):
                m = deepcopy(ROUND)
                told = call(m)
                kept = deepcopy(told)
                m[1].append((3, "c", 3))
                self.assertEqual(told, kept)
                m[1].clear()
                self.assertEqual(told, kept)

    def test_the_machine_stays_when_what_was_told_is_changed(self):
        for name, call in self.calls():
            with self.subTest(name=name):
                m = deepcopy(ROUND)
                told = call(m)
                first = deepcopy(told)
                changeable = told[1] if isinstance(told, tuple) else told
                changeable.clear()
                self.assertEqual(m, ROUND)
                self.assertEqual(call(m), first)

    def test_asked_again_the_same(self):
        for name, call in self.calls():
            with self.subTest(name=name):
                self.assertEqual(call(deepcopy(ROUND)), call(deepcopy(ROUND)))

    def test_refused_machines_stay(self):
        one = (20, [(0, "a", 1)])
        other = (2, [(0, "b", 1)])
        assert_refused(self, TooBig, joined, one, other)
        self.assertEqual((one, other), ((20, [(0, "a", 1)]), (2, [(0, "b", 1)])))


if __name__ == "__main__":
    unittest.main()

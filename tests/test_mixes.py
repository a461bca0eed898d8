"""[11] two machines side by side; [12] deeds hidden and renamed."""

import unittest
from copy import deepcopy
from itertools import product

from kinlook.errors import NoDeed, TooBig
from kinlook.machines import deeds_of, made
from kinlook.mixes import beside, hide, rename
from samples import assert_refused, full_machine, small_machines, some_machines, some_steps

NO_OPEN_DEEDS = ["*", "", "abcdefg", "A", "aB", "a1", "1", " ", "a ", " a", "**", "a>b", "a,b", "_"]
DEEDS = ["*", "a", "b", "c", "d", "e", "f"]
# More steps than a machine that is made may have, as an eased one may.
LARGE = full_machine(20, DEEDS)


def loops(deeds):
    return made(1, [(0, deed, 0) for deed in deeds])


def put_together(one, other, together):
    """Side by side by the words of [11], asked step by step."""
    steps = []
    pairs = list(product(range(one[0]), range(other[0])))
    deeds = {step[1] for step in one[1] + other[1]}
    for (p, q), (r, s), deed in product(pairs, pairs, deeds):
        if deed in together:
            there = (p, deed, r) in one[1] and (q, deed, s) in other[1]
        else:
            there = (p, deed, r) in one[1] and q == s or (q, deed, s) in other[1] and p == r
        if there:
            steps.append((pairs.index((p, q)), deed, pairs.index((r, s))))
    return (len(pairs), sorted(steps))


class Beside(unittest.TestCase):
    def test_an_ordinary_one(self):
        one = (2, [(0, "a", 1), (1, "b", 0)])
        other = (3, [(0, "a", 2), (2, "*", 1)])
        self.assertEqual(
            beside(one, other, []),
            (6, [
                (0, "a", 2), (0, "a", 3), (1, "a", 4), (2, "*", 1), (2, "a", 5), (3, "a", 5), (3, "b", 0),
                (4, "b", 1), (5, "*", 4), (5, "b", 2),
            ]),
        )
        self.assertEqual(
            beside(one, other, ["a"]),
            (6, [(0, "a", 5), (2, "*", 1), (3, "b", 0), (4, "b", 1), (5, "*", 4), (5, "b", 2)]),
        )

    def test_the_state_of_two_states(self):
        one = (4, [(2, "a", 3)])
        other = (5, [(1, "a", 4)])
        self.assertEqual(beside(one, other, ["a"]), (20, [(11, "a", 19)]))
        self.assertEqual(beside(other, one, ["a"]), (20, [(6, "a", 19)]))

    def test_all_small_machines_with_each_choice_of_deeds(self):
        for one in small_machines()[::2]:
            for other in small_machines()[::3]:
                for together in ([], ["a"]):
                    self.assertEqual(beside(one, other, together), put_together(one, other, together))

    def test_some_larger_ones(self):
        machines = some_machines(60)
        told = 0
        for one, other in zip(machines, machines[1:]):
            for together in ([], ["a"], ["b"], ["b", "a"]):
                wanted = put_together(one, other, together)
                if len(wanted[1]) > 80:
                    assert_refused(self, TooBig, beside, one, other, together)
                else:
                    told += 1
                    self.assertEqual(beside(one, other, together), wanted)
        self.assertGreater(told, 150)

    def test_the_hidden_deed_is_never_done_together(self):
        one = loops(["*"])
        other = (2, [(0, "*", 1)])
        self.assertEqual(beside(one, other, ["a"]), (2, [(0, "*", 0), (0, "*", 1), (1, "*", 1)]))

    def test_a_step_that_comes_of_both_is_there_once(self):
        self.assertEqual(beside(loops(["a"]), loops(["a"]), []), (1, [(0, "a", 0)]))
        self.assertEqual(beside(loops(["a"]), loops(["a"]), ["a"]), (1, [(0, "a", 0)]))

    def test_deeds_together_that_one_of_them_lacks_are_gone(self):
        self.assertEqual(beside(loops(["a", "b"]), loops(["b"]), ["a"]), (1, [(0, "b", 0)]))
        self.assertEqual(beside(loops(["b"]), loops(["a", "b"]), ["a"]), (1, [(0, "b", 0)]))

    def test_deeds_together_that_no_step_has(self):
        one = (2, [(0, "a", 1)])
        self.assertEqual(beside(one, one, ["q", "zzzzzz"]), beside(one, one, []))
        self.assertEqual(beside((1, []), (1, []), ["q"]), (1, []))

    def test_deeds_together_told_twice(self):
        one = (2, [(0, "a", 1), (1, "b", 1)])
        self.assertEqual(beside(one, one, ["a", "b", "a", "a"]), put_together(one, one, ["a", "b"]))

    def test_with_a_machine_of_one_state_without_steps(self):
        m = (3, [(0, "*", 1), (0, "a", 2), (2, "b", 0)])
        self.assertEqual(beside(m, (1, []), []), m)
        self.assertEqual(beside((1, []), m, []), m)
        self.assertEqual(beside(m, (1, []), ["a", "b"]), (3, [(0, "*", 1)]))


class BesideRefused(unittest.TestCase):
    def test_states(self):
        for one, other in [(1, 20), (20, 1), (4, 5), (5, 4), (2, 10), (10, 2)]:
            self.assertEqual(beside((one, []), (other, []), []), (20, []))
        for one, other in [(3, 7), (7, 3), (2, 11), (20, 2), (5, 5), (20, 20)]:
            assert_refused(self, TooBig, beside, (one, []), (other, []), [])
        assert_refused(self, TooBig, beside, LARGE, LARGE, [])
        assert_refused(self, TooBig, beside, LARGE, LARGE, DEEDS[1:])

    def test_steps_of_one_and_of_the_other(self):
        eighty = (4, some_steps(16, 4))
        self.assertEqual(len(beside(eighty, (5, []), [])[1]), 80)
        self.assertEqual(len(beside((5, []), eighty, [])[1]), 80)
        deeds = ["a", "b"]
        for many, wanted in ((8, 80), (9, 81)):
            one = (many, full_machine(many, deeds)[1][:72])
            if wanted == 80:
                self.assertEqual(len(beside(one, loops(["c"]), [])[1]), 80)
                self.assertEqual(len(beside(loops(["c"]), one, [])[1]), 80)
            else:
                assert_refused(self, TooBig, beside, one, loops(["c"]), [])
                assert_refused(self, TooBig, beside, loops(["c"]), one, [])

    def test_steps_done_together(self):
        self.assertEqual(len(beside((4, some_steps(16, 4)), (5, some_steps(5, 5)), ["a"])[1]), 80)
        self.assertEqual(len(beside((3, some_steps(8, 3)), (4, some_steps(10, 4)), ["a"])[1]), 80)
        assert_refused(self, TooBig, beside, (3, some_steps(9, 3)), (3, some_steps(9, 3)), ["a"])

    def test_different_steps_are_counted(self):
        rings = [(k, "a", k) for k in range(20)]
        one = made(20, rings + [(k, "b", to) for k in range(20) for to in range(3)])
        self.assertEqual(beside(one, loops(["a"]), []), one)
        self.assertEqual(beside(loops(["a"]), one, []), one)

    def test_machines_with_more_steps(self):
        nine = full_machine(9, ["a"])
        assert_refused(self, TooBig, beside, nine, (1, []), [])
        assert_refused(self, TooBig, beside, (1, []), nine, [])
        self.assertEqual(beside(nine, (1, []), ["a"]), (9, []))
        self.assertEqual(beside((1, []), nine, ["a"]), (9, []))

    def test_six_open_deeds_and_seven(self):
        four = loops(["a", "b", "c", "d", "*"])
        self.assertEqual(deeds_of(beside(four, loops(["e", "f", "*"]), [])), DEEDS)
        self.assertEqual(deeds_of(beside(four, loops(["c", "d", "e", "f"]), [])), DEEDS)
        for together in ([], ["a", "q"], ["b"]):
            if together:
                self.assertEqual(len(beside(four, loops(["e", "f", "g"]), together)[1]), 7)
            else:
                assert_refused(self, TooBig, beside, four, loops(["e", "f", "g"]), together)
                assert_refused(self, TooBig, beside, loops(["e", "f", "g"]), four, together)

    def test_deeds_are_counted_in_what_comes_of_it(self):
        # The seventh deed is done together, and no step comes of it.
        told = beside(loops(DEEDS[1:]), loops(["g"]), ["g"])
        self.assertEqual(deeds_of(told), DEEDS[1:])

    def test_whatever_is_no_open_deed_at_whatever_place(self):
        one = (2, [(0, "*", 1), (1, "a", 0)])
        for word in NO_OPEN_DEEDS:
            for deeds in ([word], [word, "a"], ["a", word], ["a", "q", word, "b"], ["a", "a", word, word]):
                with self.subTest(deeds=deeds):
                    assert_refused(self, NoDeed, beside, one, one, deeds)
                    assert_refused(self, NoDeed, beside, (1, []), (1, []), deeds)

    def test_no_deed_ahead_of_too_big(self):
        assert_refused(self, NoDeed, beside, (20, []), (20, []), ["a", "*"])
        assert_refused(self, NoDeed, beside, full_machine(9, ["a"]), (1, []), ["A"])
        assert_refused(self, NoDeed, beside, loops(DEEDS), loops(["g"]), [""])


class Hide(unittest.TestCase):
    def test_an_ordinary_one(self):
        m = (3, [(0, "a", 1), (0, "b", 2), (1, "ab", 2), (2, "*", 0)])
        self.assertEqual(hide(m, ["a", "ab"]), (3, [(0, "*", 1), (0, "b", 2), (1, "*", 2), (2, "*", 0)]))
        self.assertEqual(hide(m, ["b"]), (3, [(0, "*", 2), (0, "a", 1), (1, "ab", 2), (2, "*", 0)]))

    def test_steps_that_become_one(self):
        m = (2, [(0, "*", 1), (0, "a", 0), (0, "a", 1), (0, "b", 1), (1, "b", 0)])
        self.assertEqual(hide(m, ["a", "b"]), (2, [(0, "*", 0), (0, "*", 1), (1, "*", 0)]))

    def test_all_small_machines(self):
        for m in small_machines() + some_machines(40):
            for deeds in ([], ["a"], ["b"], ["b", "a"]):
                steps = {(start, "*" if deed in deeds else deed, end) for start, deed, end in m[1]}
                self.assertEqual(hide(m, deeds), (m[0], sorted(steps)))

    def test_no_deeds_told_twice_and_such_as_no_step_has(self):
        m = (2, [(0, "a", 1), (1, "b", 0)])
        self.assertEqual(hide(m, []), m)
        self.assertEqual(hide(m, ["q", "c"]), m)
        self.assertEqual(hide(m, ["a", "q", "a"]), (2, [(0, "*", 1), (1, "b", 0)]))
        self.assertEqual(hide((1, []), ["a"]), (1, []))

    def test_machines_with_more_steps(self):
        self.assertEqual(hide(LARGE, ["a"]), full_machine(20, ["*", "b", "c", "d", "e", "f"]))
        self.assertEqual(hide(LARGE, []), LARGE)
        self.assertEqual(hide(full_machine(20, DEEDS[1:]), ["c"]), full_machine(20, ["*", "a", "b", "d", "e", "f"]))

    def test_whatever_is_no_open_deed_at_whatever_place(self):
        for m in ((1, []), (2, [(0, "*", 1), (1, "a", 0)]), LARGE):
            for word in NO_OPEN_DEEDS:
                for deeds in ([word], [word, "a"], ["a", word], ["q", word, "a"]):
                    assert_refused(self, NoDeed, hide, m, deeds)


class Rename(unittest.TestCase):
    def test_an_ordinary_one(self):
        m = (3, [(0, "a", 1), (0, "b", 2), (1, "ab", 2), (2, "*", 0)])
        self.assertEqual(
            rename(m, [("a", "z"), ("ab", "c")]), (3, [(0, "b", 2), (0, "z", 1), (1, "c", 2), (2, "*", 0)])
        )

    def test_two_names_changed_about(self):
        m = (2, [(0, "a", 0), (0, "b", 1), (1, "c", 0)])
        self.assertEqual(rename(m, [("a", "b"), ("b", "a")]), (2, [(0, "a", 1), (0, "b", 0), (1, "c", 0)]))
        self.assertEqual(
            rename(m, [("a", "b"), ("b", "c"), ("c", "a")]), (2, [(0, "b", 0), (0, "c", 1), (1, "a", 0)])
        )

    def test_each_step_once(self):
        self.assertEqual(rename((1, [(0, "a", 0)]), [("a", "b"), ("b", "c")]), (1, [(0, "b", 0)]))
        self.assertEqual(rename((1, [(0, "a", 0)]), [("b", "c"), ("a", "b")]), (1, [(0, "b", 0)]))

    def test_the_first_pair_with_the_same_old(self):
        self.assertEqual(rename((1, [(0, "a", 0)]), [("a", "b"), ("a", "c")]), (1, [(0, "b", 0)]))
        self.assertEqual(rename((1, [(0, "a", 0)]), [("q", "d"), ("a", "a"), ("a", "c")]), (1, [(0, "a", 0)]))

    def test_steps_that_become_one(self):
        m = (2, [(0, "a", 1), (0, "b", 1), (1, "b", 0)])
        self.assertEqual(rename(m, [("a", "b")]), (2, [(0, "b", 1), (1, "b", 0)]))

    def test_the_hidden_deed_stays(self):
        self.assertEqual(rename((1, [(0, "*", 0), (0, "a", 0)]), [("a", "b")]), (1, [(0, "*", 0), (0, "b", 0)]))

    def test_all_small_machines(self):
        choices = [[], [("a", "b")], [("b", "a"), ("a", "b")], [("a", "c"), ("a", "b"), ("c", "d")], [("q", "a")]]
        for m in small_machines() + some_machines(40):
            for pairs in choices:
                steps = set()
                for start, deed, end in m[1]:
                    news = [new for old, new in pairs if old == deed] + [deed]
                    steps.add((start, news[0], end))
                self.assertEqual(rename(m, pairs), (m[0], sorted(steps)))

    def test_machines_with_more_steps(self):
        self.assertEqual(rename(LARGE, [("a", "z")]), full_machine(20, ["*", "b", "c", "d", "e", "f", "z"]))
        self.assertEqual(rename(LARGE, [("a", "b")]), full_machine(20, ["*", "b", "c", "d", "e", "f"]))
        self.assertEqual(rename(LARGE, []), LARGE)

    def test_whatever_is_no_open_deed_at_whatever_place(self):
        good = [("a", "b"), ("q", "z")]
        for m in ((1, []), (2, [(0, "*", 1), (1, "a", 0)])):
            for word in NO_OPEN_DEEDS:
                for pair in ((word, "a"), ("a", word), ("q", word), (word, word)):
                    for place in range(3):
                        assert_refused(self, NoDeed, rename, m, good[:place] + [pair] + good[place:])


class AskersOwn(unittest.TestCase):
    """[2] of mixes."""

    def calls(self):
        return [
            ("beside, as the one", lambda m, deeds: beside(m, (2, [(0, "b", 1)]), deeds)),
            ("beside, as the other", lambda m, deeds: beside((2, [(0, "b", 1)]), m, deeds)),
            ("beside, alone", lambda m, deeds: beside(m, (1, []), [])),
            ("hide", hide),
            ("hide nothing", lambda m, deeds: hide(m, [])),
            ("rename", lambda m, deeds: rename(m, [(deed, "z") for deed in deeds])),
            ("rename nothing", lambda m, deeds: rename(m, [])),
        ]

    def test_what_is_handed_in_stays_and_so_does_what_is_told(self):
        for name, call in self.calls():
            with self.subTest(name=name):
                m = (3, [(0, "*", 1), (0, "a", 2), (2, "b", 0)])
                deeds = ["b", "a", "b"]
                told = call(m, deeds)
                self.assertEqual(m, (3, [(0, "*", 1), (0, "a", 2), (2, "b", 0)]))
                self.assertEqual(deeds, ["b", "a", "b"])
                self.assertEqual(call(deepcopy(m), list(deeds)), told)
                kept = deepcopy(told)
                m[1].clear()
                deeds.clear()
                self.assertEqual(told, kept)

    def test_the_machine_stays_when_what_was_told_is_changed(self):
        for name, call in self.calls():
            with self.subTest(name=name):
                m = (3, [(0, "*", 1), (0, "a", 2), (2, "b", 0)])
                told = call(m, ["a"])
                kept = deepcopy(told)
                told[1].clear()
                self.assertEqual(m, (3, [(0, "*", 1), (0, "a", 2), (2, "b", 0)]))
                self.assertEqual(call(m, ["a"]), kept)

    def test_pairs_stay(self):
        pairs = [("a", "b"), ("a", "c")]
        rename((1, [(0, "a", 0)]), pairs)
        self.assertEqual(pairs, [("a", "b"), ("a", "c")])

    def test_the_kinds_of_what_is_told(self):
        m = (2, [(0, "a", 1)])
        for told in (beside(m, m, []), hide(m, ["a"]), rename(m, [("a", "b")])):
            self.assertEqual([type(told), type(told[0]), type(told[1])], [tuple, int, list])
            self.assertEqual({type(step) for step in told[1]}, {tuple})


if __name__ == "__main__":
    unittest.main()

"""[3] over the whole program, sentence by sentence."""

import os
import subprocess
import sys
import unittest
from itertools import product
from pathlib import Path

from kinlook.desk import Desk
from kinlook.easing import eased, kin
from kinlook.errors import TooBig
from kinlook.frames import framed
from kinlook.kinds import alike
from kinlook.leasts import homes_of, least_of
from kinlook.machines import joined, met
from kinlook.oneway import can, is_one_way, lack_of, missed_at, one_way_of
from kinlook.partings import parted_at, parting_of
from kinlook.portraits import portrait_of
from kinlook.scrolls import depth_of, holds, without_not
from kinlook.sentences import read_scroll, read_sentence, show_scroll, tell
from kinlook.tables import is_table, table_of
from kinlook.texts import read, shown
from samples import (
    begin_alike, large_machines, line_machines, matched_pairs, ranks_by_words, small_machines, some_machines, some_scrolls,
)

OTHER = (2, [(0, "a", 1), (1, "*", 0), (1, "b", 1)])
FRAMES = [
    [("right", OTHER, [])], [("left", OTHER, [])], [("right", OTHER, ["a"])], [("left", OTHER, ["a", "b"])],
    [("hide", ["a"])], [("hide", ["b", "q"])], [("rename", [("a", "b"), ("b", "a")])], [("rename", [("a", "b")])],
    [("right", OTHER, ["b"]), ("hide", ["a"]), ("left", (2, [(0, "b", 1)]), ["b"])],
    [("rename", [("a", "c")]), ("left", OTHER, []), ("hide", ["c"])],
    [("right", (2, [(0, "*", 1), (1, "a", 0)]), ["a"]), ("hide", ["a"])],
]


def groups(machines, name):
    """The machines put together by what the name tells of them, at least two of each."""
    found = {}
    for m in machines:
        found.setdefault(repr(name(m)), []).append(m)
    return [group for group in found.values() if len(group) > 1]


def same_kin(m):
    return least_of(eased(m))


class AlikeAndUnlike(unittest.TestCase):
    def test_a_table_or_a_sentence(self):
        for m in small_machines()[::5] + line_machines()[::11] + some_machines(40, 6) + large_machines()[::3]:
            for p, q in product(range(m[0]), repeat=2):
                table, sentence = table_of(m, p, q), parting_of(m, p, q)
                self.assertEqual([table is None, sentence is None], [not alike(m, p, q), alike(m, p, q)])
                if table is not None:
                    self.assertIn((p, q), table)
                    self.assertIs(is_table(m, table), True)
                else:
                    self.assertEqual([holds(m, sentence, p), holds(m, sentence, q)], [True, False])
                    turn = parted_at(m, p, q)
                    self.assertEqual(depth_of(sentence), turn)
                    ranks = ranks_by_words(m, turn - 1)
                    self.assertEqual(ranks[p], ranks[q])

    def test_with_hidden_steps_in_between(self):
        for m in some_machines(30, 5):
            large = eased(m)
            for p, q in product(range(m[0]), repeat=2):
                sentence = parting_of(large, p, q)
                self.assertIs(kin(m, p, q), sentence is None)
                if sentence is not None:
                    self.assertEqual([holds(large, sentence, p), holds(large, sentence, q)], [True, False])
                else:
                    self.assertIs(is_table(large, table_of(large, p, q)), True)

    def test_the_portrait_parts_states_as_the_rounds_do(self):
        for m in some_machines(20, 5):
            for k in range(5):
                ranks = ranks_by_words(m, k)
                for p, q in product(range(m[0]), repeat=2):
                    self.assertIs(holds(m, portrait_of(m, p, ["*", "a", "b"], k), q), ranks[p] == ranks[q])


class LeastMachines(unittest.TestCase):
    def test_one_state_for_each_kind_that_can_be_met(self):
        for m in small_machines()[::3] + some_machines(60, 6) + large_machines():
            least = least_of(m)
            kinds = ranks_by_words(m, m[0])
            self.assertEqual(least[0], len({kinds[state] for state in met(m)}))
            self.assertEqual(sorted({home for home in homes_of(m) if home is not None}), list(range(least[0])))
            self.assertEqual(matched_pairs(least, True), {(state, state) for state in range(least[0])})

    def test_two_machines_begin_alike_just_where_their_least_ones_are_equal(self):
        machines = small_machines()[::5] + line_machines()[::31] + some_machines(30, 5)
        for one, other in product(machines, machines[::3]):
            self.assertIs(least_of(one) == least_of(other), begin_alike(one, other))
            both = joined(one, other)
            self.assertIs(alike(both, 0, one[0]), least_of(one) == least_of(other))


class InEachOthersPlace(unittest.TestCase):
    MACHINES = small_machines()[::2] + some_machines(250, 4)

    def check(self, name):
        told = 0
        for group in groups(self.MACHINES, name):
            for frame in FRAMES:
                made_ones = []
                for m in [group[0]] + group[1::3] + group[-1:]:
                    try:
                        made_ones.append(name(framed(m, frame)))
                    except TooBig:
                        continue
                for other in made_ones[1:]:
                    told += 1
                    self.assertEqual(made_ones[0], other)
        return told

    def test_machines_that_begin_alike(self):
        self.assertGreater(self.check(least_of), 500)

    def test_machines_that_begin_kin(self):
        self.assertGreater(self.check(same_kin), 500)

    def test_machines_that_are_kin_but_not_alike(self):
        slow = (3, [(0, "*", 1), (1, "a", 2)])
        quick = (2, [(0, "a", 1)])
        self.assertNotEqual(least_of(slow), least_of(quick))
        for frame in FRAMES:
            self.assertEqual(same_kin(framed(slow, frame)), same_kin(framed(quick, frame)))


class OneWay(unittest.TestCase):
    def test_a_one_way_table_or_a_sentence(self):
        for m in small_machines()[::7] + line_machines()[::17] + some_machines(30, 5):
            for p, q in product(range(m[0]), repeat=2):
                table, sentence = one_way_of(m, p, q), lack_of(m, p, q)
                self.assertEqual([table is None, sentence is None], [not can(m, p, q), can(m, p, q)])
                if table is not None:
                    self.assertIn((p, q), table)
                    self.assertIs(is_one_way(m, table), True)
                else:
                    self.assertEqual([holds(m, sentence, p), holds(m, sentence, q)], [True, False])
                    self.assertEqual(depth_of(sentence), missed_at(m, p, q))

    def test_two_that_are_alike_can_do_the_same(self):
        for m in some_machines(40, 5):
            for p, q in product(range(m[0]), repeat=2):
                if alike(m, p, q):
                    self.assertEqual([can(m, p, q), can(m, q, p)], [True, True])


class ShownAndRead(unittest.TestCase):
    def test_machines(self):
        for m in small_machines()[::3] + some_machines(40, 6):
            for told in (m, least_of(m), framed(m, [("hide", ["a"])])):
                self.assertEqual(read(shown(told)), told)

    def test_scrolls(self):
        for m in some_machines(30, 5) + large_machines()[:4]:
            scrolls = [portrait_of(m, 0, ["*", "a", "b", "c", "d", "e", "f"], 2)] if len(m[1]) <= 80 else []
            for q in range(m[0]):
                scrolls.extend(scroll for scroll in (parting_of(m, 0, q), lack_of(m, 0, q)) if scroll is not None)
            for scroll in scrolls:
                self.assertEqual(read_scroll(show_scroll(scroll)), scroll)
                self.assertEqual(read_scroll(show_scroll(without_not(scroll))), without_not(scroll))

    def test_sentences_in_words(self):
        for scroll in some_scrolls(100, 8):
            text = tell(scroll)
            self.assertEqual(tell(read_sentence(text)), text)
            for m in some_machines(5):
                for state in range(m[0]):
                    self.assertIs(holds(m, read_sentence(text), state), holds(m, scroll, state))

    def test_at_the_desk(self):
        desk = Desk()
        for m in some_machines(20, 5):
            desk.say("machine a " + shown(m))
            desk.say("machine b " + desk.say("show a"))
            self.assertEqual(desk.say("show b"), shown(m))
            self.assertEqual(desk.say("alike a b"), "yes")
            self.assertEqual(desk.say("why a b"), "none")


# What is asked of each of some machines, for test_nothing_hangs_on_chance.
QUESTIONS = """
from kinlook import easing, kinds, leasts, oneway, partings, portraits, scrolls, sentences, tables
from samples import some_machines, some_scrolls

for m in some_machines(12, 6):
    last = m[0] - 1
    print(kinds.rounds_of(m), tables.table_of(m, 0, last), partings.parting_of(m, 0, last), leasts.least_of(m))
    print(easing.eased(m), easing.walk_of(m, 0, "a", last), oneway.lack_of(m, 0, last), oneway.one_way_of(m, last, 0))
    print(portraits.portrait_of(m, 0, ["f", "b", "*", "a", "abc", "q"], 3))
for scroll in some_scrolls(20):
    print(scrolls.without_not(scroll), sentences.read_sentence(sentences.tell(scroll)))
"""


class Chance(unittest.TestCase):
    """[2]: Python orders the members of a set by chance, anew each time it starts."""

    def test_nothing_hangs_on_chance(self):
        tests = Path(__file__).resolve().parent
        told = []
        for seed in ("1", "2", "3"):
            settings = dict(os.environ, PYTHONHASHSEED=seed, PYTHONPATH=os.pathsep.join([str(tests.parent), str(tests)]))
            done = subprocess.run([sys.executable, "-c", QUESTIONS], env=settings, capture_output=True, text=True, check=True)
            told.append(done.stdout)
        self.assertEqual(told, told[:1] * 3)
        self.assertGreater(len(told[0]), 1000)


if __name__ == "__main__":
    unittest.main()

"""Machines and ways of asking that several tests share."""

from itertools import product
from random import Random

from kinlook import errors
from kinlook.scrolls import depth_of, is_scroll

REFUSALS = [
    errors.NoMachine, errors.TooBig, errors.NoState, errors.NoDeed, errors.NoText,
    errors.NoFrame, errors.NoScroll, errors.NoName, errors.NoRow,
]


def small_machines():
    """All machines of one or two states with the deeds * and a."""
    found = []
    for many in (1, 2):
        steps = sorted(product(range(many), ["*", "a"], range(many)))
        for picks in product([False, True], repeat=len(steps)):
            found.append((many, [step for step, pick in zip(steps, picks) if pick]))
    return found


def line_machines():
    """All machines of three states with the one deed a."""
    steps = sorted(product(range(3), ["a"], range(3)))
    return [
        (3, [step for step, pick in zip(steps, picks) if pick])
        for picks in product([False, True], repeat=len(steps))
    ]


def full_machine(many, deeds):
    """A machine with each step that its states and deeds allow."""
    return (many, sorted(product(range(many), deeds, range(many))))


def some_steps(count, many=20):
    """So many different steps, all with the deed a, sorted."""
    return sorted(product(range(many), ["a"], range(many)))[:count]


def some_machines(count, most_states=4, deeds=("*", "a", "b"), seed=1):
    """So many machines of few states, the same ones each time."""
    source = Random(seed)
    found = []
    for turn in range(count):
        many = source.randint(1, most_states)
        steps = sorted(product(range(many), deeds, range(many)))
        picked = source.sample(steps, source.randint(0, min(len(steps), 3 * many)))
        found.append((many, sorted(picked)))
    return found


def some_scrolls(count, most_rows=12, deeds=("*", "a", "b"), seed=2):
    """So many scrolls of few rows, the same ones each time."""
    source = Random(seed)
    found = []
    for turn in range(count):
        rows = []
        for k in range(source.randint(1, most_rows)):
            word = source.choice(["some", "all", "not", "and", "or"] if k else ["and", "or"])
            if word in ("some", "all"):
                rows.append((word, source.choice(deeds), source.randrange(k)))
            elif word == "not":
                rows.append((word, source.randrange(k)))
            else:
                rows.append((word, tuple(source.randrange(k) for part in range(source.randint(0, 3) if k else 0))))
        found.append(rows)
    return found


def true_at(m, rows, k, state):
    """Whether the row numbered k holds at the state, by the words of [15]."""
    row = rows[k]
    if row[0] == "not":
        return not true_at(m, rows, row[1], state)
    if row[0] == "and":
        return all(true_at(m, rows, part, state) for part in row[1])
    if row[0] == "or":
        return any(true_at(m, rows, part, state) for part in row[1])
    ends = [end for start, deed, end in m[1] if start == state and deed == row[1]]
    if row[0] == "some":
        return any(true_at(m, rows, row[2], end) for end in ends)
    return all(true_at(m, rows, row[2], end) for end in ends)


def true_states(m, rows):
    """The states at which the last row holds."""
    return [state for state in range(m[0]) if true_at(m, rows, len(rows) - 1, state)]


def deep_of(rows, k):
    """The depth of the row numbered k, by the words of [16]."""
    row = rows[k]
    if row[0] in ("some", "all"):
        return 1 + deep_of(rows, row[2])
    if row[0] == "not":
        return deep_of(rows, row[1])
    return max([deep_of(rows, part) for part in row[1]] + [0])


def truths(m, rows):
    """For each row the set of the states at which it holds, by the words of [15]; for scrolls that share many rows."""
    found = []
    every = set(range(m[0]))
    for row in rows:
        if row[0] == "not":
            found.append(every - found[row[1]])
        elif row[0] == "and":
            found.append(every.intersection(*[found[part] for part in row[1]]))
        elif row[0] == "or":
            found.append(set().union(*[found[part] for part in row[1]]))
        else:
            goes = {start for start, deed, end in m[1] if deed == row[1] and end in found[row[2]]}
            misses = {start for start, deed, end in m[1] if deed == row[1] and end not in found[row[2]]}
            found.append(goes if row[0] == "some" else every - misses)
    return found


def ranks_by_words(m, turns):
    """The ranks in a round, by the words of [21]."""
    ranks = [0] * m[0]
    for turn in range(turns):
        keys = []
        for state in range(m[0]):
            pairs = {(deed, ranks[end]) for start, deed, end in m[1] if start == state}
            keys.append((ranks[state], tuple(sorted(pairs))))
        order = sorted(set(keys))
        ranks = [order.index(key) for key in keys]
    return ranks


def matches(m, pairs, p, q, both_ways):
    """Whether each step of p has a step of q with the same deed that leads to a pair, and, both ways, the other way."""
    of_p = [(deed, end) for start, deed, end in m[1] if start == p]
    of_q = [(deed, end) for start, deed, end in m[1] if start == q]
    for deed, end in of_p:
        if not any((end, other) in pairs for by, other in of_q if by == deed):
            return False
    for deed, end in of_q if both_ways else []:
        if not any((other, end) in pairs for by, other in of_p if by == deed):
            return False
    return True


def matched_pairs(m, both_ways, turns=None):
    """The pairs left after so many turns of striking those that don't match, or after all that strike any."""
    pairs = set(product(range(m[0]), repeat=2))
    while turns is None or turns > 0:
        left = {(p, q) for p, q in pairs if matches(m, pairs, p, q, both_ways)}
        if turns is not None:
            turns -= 1
        elif left == pairs:
            break
        pairs = left
    return pairs


def reached_hidden(m, state):
    """The reach of a state, by the words of [28]: as many hidden steps as there are states are enough."""
    states = {state}
    for turn in range(m[0]):
        states |= {end for start, deed, end in m[1] if deed == "*" and start in states}
    return states


def eased_by_words(m):
    """The machine eased, by the words of [28], asked step by step."""
    reach = [reached_hidden(m, state) for state in range(m[0])]
    steps = {(p, "*", q) for p in range(m[0]) for q in reach[p]}
    for r, deed, s in m[1]:
        if deed != "*":
            steps |= {(p, deed, q) for p in range(m[0]) if r in reach[p] for q in reach[s]}
    return (m[0], sorted(steps))


def begin_alike(one, other, both_ways=True):
    """Whether the beginnings of two machines match, put together as one, by turns of striking pairs."""
    return (0, one[0]) in matched_pairs(put_as_one(one, other), both_ways)


def sets_told(m, depth, with_not):
    """The sets of states at which some scroll of at most this depth holds, for machines of few states.

    Without "not", the scrolls are those of rows "some", "and" and "or".
    """
    every = frozenset(range(m[0]))
    deeds = {step[1] for step in m[1]}
    found = {every, frozenset()}
    for turn in range(depth):
        for deed, inner in product(deeds, list(found)):
            found.add(frozenset(start for start, by, end in m[1] if by == deed and end in inner))
        while True:
            more = {one | other for one in found for other in found} | {one & other for one in found for other in found}
            if with_not:
                more |= {every - one for one in found}
            if more <= found:
                break
            found |= more
    return found


def put_as_one(one, other):
    """Two machines as one, as in [8], but of whatever size."""
    moved = [(start + one[0], deed, end + one[0]) for start, deed, end in other[1]]
    return (one[0] + other[0], one[1] + moved)


def chain(many, deed="a"):
    """A machine that takes as many rounds as can be: each state goes to the next one, the last one nowhere."""
    return (many, [(k, deed, k + 1) for k in range(many - 1)])


def large_machines():
    """Machines of 20 states, some of many rounds, some with more than 80 steps."""
    source = Random(11)
    found = [chain(20), (20, [(k, "ab"[k % 3 == 0], (k + 1) % 20) for k in range(20)])]
    found.append((20, sorted([(k, "a", k + 1) for k in range(19)] + [(k, "a", k) for k in range(20)])))
    found.append((20, sorted({(k, "*a"[k % 2], max(k - j, 0)) for k in range(20) for j in (1, 2)})))
    found.append((20, sorted({(k, "a", to) for k in range(20) for to in range(k)})))
    for deeds, count in [("a", 24), ("a", 40), ("a", 80), ("ab", 28), ("*ab", 80), ("*abcdef", 80), ("ab", 300)]:
        steps = sorted(product(range(20), deeds, range(20)))
        found.append((20, sorted(source.sample(steps, count))))
    return found


# Whatever is no scroll, of whatever kind; each of these fails for a reason of its own.
YES = ("and", ())
NO_SCROLLS = [
    None, True, 0, 1, 1.5, "", "and", "yes", b"and", (), (YES,), {}, {0: YES}, object(), list, [],
    [None], [0], ["and"], [[]], [()], [["and", ()]], [{}], [b"and"], [("and",)], [("or",)], [("and", (), ())],
    [(None, ())], [(0, ())], [(b"and", ())], [(("and",), ())], [("", ())], [("And", ())], [("and ", ())], [("yes",)],
    [("no",)], [("both", ())], [("nor", ())], [("and", None)], [("and", 0)], [("and", [])], [("and", {})], [("and", "")],
    [("and", (0,))], [("or", (0,))], [("and", (-1,))], [("not", 0)], [("some", "a", 0)], [("all", "*", 0)],
    [YES, ("and", (1,))], [YES, ("or", (0, 1))], [YES, ("and", (0, -1))], [YES, ("and", [0])], [YES, ("and", 0)],
    [YES, ("and", 0, 0)], [YES, ("and", (True,))], [YES, ("or", (False,))], [YES, ("and", (0.0,))], [YES, ("or", ("0",))],
    [YES, ("and", (None,))], [YES, ("and", ((0,),))], [YES, ("or", {0})], [YES, ("not",)], [YES, ("not", 1)],
    [YES, ("not", -1)], [YES, ("not", False)], [YES, ("not", 0.0)], [YES, ("not", "0")], [YES, ("not", (0,))],
    [YES, ("not", 0, 0)], [YES, ("not", None)], [YES, ("some", "a")], [YES, ("some", "a", 1)], [YES, ("some", "a", -1)],
    [YES, ("some", "a", False)], [YES, ("some", "a", 0.0)], [YES, ("some", "a", (0,))], [YES, ("some", "a", None)],
    [YES, ("some", "a", 0, 0)], [YES, ("some", 0)], [YES, ("some", "", 0)], [YES, ("some", "abcdefg", 0)],
    [YES, ("some", "A", 0)], [YES, ("some", "**", 0)], [YES, ("some", None, 0)], [YES, ("some", ["a"], 0)],
    [YES, ("some", b"a", 0)], [YES, ("some", 0, 0)], [YES, ("all", "a")], [YES, ("all", "a", 1)],
    [YES, ("all", "a", True)], [YES, ("all", "a1", 0)], [YES, ("all", 0, "a")], [YES, ["not", 0]], [YES, None],
    [None, YES], [("not", 1), YES], [YES, ("not", 2), ("not", 0)], [YES, ("not", 10 ** 50)], [YES] * 2001,
    [YES] * 2000 + [("not", 0)], [YES, ("and", (0,) * 201)], [YES, ("or", (0,) * 201)], [YES, ("and", (0,) * 201), YES],
]


def assert_refused(case, refusal, call, *things):
    """The call is refused with just this refusal, and with no other one."""
    with case.assertRaises(errors.KinError) as caught:
        call(*things)
    case.assertIsInstance(caught.exception, ValueError)
    told = [name for name in REFUSALS if isinstance(caught.exception, name)]
    case.assertEqual(told, [refusal])


def assert_table(case, m, told, pair, both_ways):
    """What is told is a table, or a one-way table, that has the pair, sorted, each pair once."""
    case.assertIs(type(told), list)
    case.assertIn(pair, told)
    case.assertEqual(told, sorted(set(told)))
    case.assertTrue(all(type(other) is tuple and len(other) == 2 for other in told))
    case.assertTrue(all(matches(m, told, a, b, both_ways) for a, b in told))


def assert_parts(case, m, scroll, pair, depth):
    """The scroll has the depth and at most 800 rows, and holds at the first of the pair and not at the second."""
    case.assertIs(is_scroll(scroll), True)
    case.assertLessEqual(len(scroll), 800)
    case.assertEqual(depth_of(scroll), depth)
    held = truths(m, scroll)[-1]
    case.assertEqual([state in held for state in pair], [True, False])

"""Machines and ways of asking that several tests share."""

from itertools import product

from kinlook import errors

REFUSALS = [
    errors.NoMachine, errors.TooBig, errors.NoState, errors.NoDeed, errors.NoText,
    errors.NoFrame, errors.NoScroll, errors.NoName, errors.NoRow,
]


def small_machines():
    """All machines of one or two states with the deeds * and a."""
    found = []
    for many in (1, 2):
        steps = sorted(product(range(many), ["*", "a"], range(many)))
        for picks in product([False, True], repeat=len(steps)):
            found.append((many, [step for step, pick in zip(steps, picks) if pick]))
    return found


def line_machines():
    """All machines of three states with the one deed a."""
    steps = sorted(product(range(3), ["a"], range(3)))
    return [
        (3, [step for step, pick in zip(steps, picks) if pick])
        for picks in product([False, True], repeat=len(steps))
    ]


def full_machine(many, deeds):
    """A machine with each step that its states and deeds allow."""
    return (many, sorted(product(range(many), deeds, range(many))))


def some_steps(count, many=20):
    """So many different steps, all with the deed a, sorted."""
    return sorted(product(range(many), ["a"], range(many)))[:count]


def assert_refused(case, refusal, call, *things):
    """The call is refused with just this refusal, and with no other one."""
    with case.assertRaises(errors.KinError) as caught:
        call(*things)
    case.assertIsInstance(caught.exception, ValueError)
    told = [name for name in REFUSALS if isinstance(caught.exception, name)]
    case.assertEqual(told, [refusal])

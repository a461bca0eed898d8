"""Machines mixed: two put side by side, deeds hidden and renamed."""

from kinlook.deeds import HIDDEN, is_open
from kinlook.errors import NoDeed
from kinlook.machines import check_bounds


def check_open(deeds):
    for deed in deeds:
        if not is_open(deed):
            raise NoDeed("a deed that is not open")


def steps_of_one(one, other, together):
    many = other[0]
    steps = []
    for start, deed, end in one[1]:
        if deed not in together:
            steps.extend([(start * many + q, deed, end * many + q) for q in range(many)])
    return steps


def steps_of_other(one, other, together):
    many = other[0]
    steps = []
    for start, deed, end in other[1]:
        if deed not in together:
            steps.extend([(p * many + start, deed, p * many + end) for p in range(one[0])])
    return steps


def steps_together(one, other, together):
    many = other[0]
    steps = []
    for start, deed, end in one[1]:
        if deed in together:
            mates = [step for step in other[1] if step[1] == deed]
            steps.extend([(start * many + mate[0], deed, end * many + mate[2]) for mate in mates])
    return steps


def beside(one, other, together):
    check_open(together)
    many = one[0] * other[0]
    # The states are counted first, so that no long list of steps is made in vain.
    check_bounds((many, []))
    steps = steps_of_one(one, other, together) + steps_of_other(one, other, together)
    m = (many, sorted(set(steps + steps_together(one, other, together))))
    check_bounds(m)
    return m


def with_deeds(m, new_deeds):
    # No bounds to keep here: there are never more steps or deeds than before.
    steps = [(step[0], new_deeds.get(step[1], step[1]), step[2]) for step in m[1]]
    return (m[0], sorted(set(steps)))


def hide(m, deeds):
    check_open(deeds)
    new_deeds = {}
    for deed in deeds:
        new_deeds[deed] = HIDDEN
    return with_deeds(m, new_deeds)


def rename(m, pairs):
    new_deeds = {}
    for old, new in pairs:
        check_open([old, new])
        # The first pair with an old deed counts.
        new_deeds.setdefault(old, new)
    return with_deeds(m, new_deeds)

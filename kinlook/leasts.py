"""The least machine: one state for each kind of state that can be met."""

from kinlook.kinds import kinds_of
from kinlook.machines import met


def homes_of(m):
    kinds = kinds_of(m)
    numbers = {kinds[0]: 0}
    for kind in sorted(set([kinds[state] for state in met(m)])):
        if kind not in numbers:
            numbers[kind] = len(numbers)
    return [numbers.get(kind) for kind in kinds]


def least_of(m):
    homes = homes_of(m)
    # A state that has a home is alike to one met, so its steps lead to states that have homes.
    steps = [(homes[start], deed, homes[end]) for start, deed, end in m[1] if homes[start] is not None]
    return (len(set([home for home in homes if home is not None])), sorted(set(steps)))

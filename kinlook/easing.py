"""Hidden steps in between: reach, the machine eased, walks, and states that are kin."""

from kinlook.deeds import HIDDEN, is_deed
from kinlook.errors import NoDeed
from kinlook.kinds import alike
from kinlook.machines import check_state, exits_of, ways_of


def hidden_walks(ways, state):
    # Each state is come to once, so that no walk goes through a state twice.
    walks = {state: []}
    waiting = [state]
    while waiting:
        start = waiting.pop()
        for end in ways.get((start, HIDDEN), []):
            if end not in walks:
                walks[end] = walks[start] + [(start, HIDDEN, end)]
                waiting.append(end)
    return walks


def reach_of(m, state):
    check_state(m, state)
    return sorted(hidden_walks(ways_of(m), state))


def eased_steps(exits, reaches, state):
    steps = [(state, HIDDEN, end) for end in reaches[state]]
    for near in reaches[state]:
        for deed, far in exits[near]:
            if deed != HIDDEN:
                steps.extend([(state, deed, end) for end in reaches[far]])
    return sorted(set(steps))


def eased(m):
    ways = ways_of(m)
    exits = exits_of(m)
    reaches = [sorted(hidden_walks(ways, state)) for state in range(m[0])]
    steps = []
    for state in range(m[0]):
        steps.extend(eased_steps(exits, reaches, state))
    return (m[0], steps)


def walk_of(m, p, deed, q):
    check_state(m, p)
    check_state(m, q)
    if not is_deed(deed):
        raise NoDeed("a word that is no deed")
    ways = ways_of(m)
    walks = hidden_walks(ways, p)
    if deed == HIDDEN:
        return walks.get(q)
    for near in walks:
        for far in ways.get((near, deed), []):
            last = hidden_walks(ways, far).get(q)
            if last is not None:
                return walks[near] + [(near, deed, far)] + last
    return None


def kin(m, p, q):
    return alike(eased(m), p, q)

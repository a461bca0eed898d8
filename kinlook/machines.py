"""Machines: made, asked for their states and deeds, trimmed and joined."""

from kinlook.deeds import is_deed, is_open
from kinlook.errors import NoMachine, NoState, TooBig

MOST_STATES = 20
MOST_STEPS = 80
MOST_OPEN_DEEDS = 6


def is_whole(thing):
    # Python takes True and False for ints; they are no whole numbers here.
    return isinstance(thing, int) and not isinstance(thing, bool)


def is_state(many, thing):
    return is_whole(thing) and 0 <= thing < many


def is_step(many, thing):
    if not isinstance(thing, tuple) or len(thing) != 3:
        return False
    return is_state(many, thing[0]) and is_deed(thing[1]) and is_state(many, thing[2])


def check_parts(many, steps):
    if not is_whole(many) or many < 1:
        raise NoMachine("many is no whole number from 1 on")
    if not isinstance(steps, list):
        raise NoMachine("the steps are no list")
    for step in steps:
        if not is_step(many, step):
            raise NoMachine("a step is no tuple of a state, a deed and a state")


def check_bounds(m):
    if m[0] > MOST_STATES:
        raise TooBig("too many states")
    if len(m[1]) > MOST_STEPS:
        raise TooBig("too many different steps")
    if len([deed for deed in deeds_of(m) if is_open(deed)]) > MOST_OPEN_DEEDS:
        raise TooBig("too many different open deeds")


def check_state(m, state):
    if not 0 <= state < m[0]:
        raise NoState("the machine has no such state")


def made(many, steps):
    check_parts(many, steps)
    m = (many, sorted(set(steps)))
    check_bounds(m)
    return m


def after(m, state, deed):
    check_state(m, state)
    # The steps are sorted, each once, so what is picked rises.
    return [step[2] for step in m[1] if step[0] == state and step[1] == deed]


def ways_of(m):
    # For whoever asks often: after goes through all steps each time.
    ways = {}
    for start, deed, end in m[1]:
        ways.setdefault((start, deed), []).append(end)
    return ways


def exits_of(m):
    exits = [[] for state in range(m[0])]
    for start, deed, end in m[1]:
        exits[start].append((deed, end))
    return exits


def deeds_of(m):
    return sorted(set([step[1] for step in m[1]]))


def met(m):
    reached = {0: True}
    waiting = [0]
    while waiting:
        state = waiting.pop()
        for step in m[1]:
            if step[0] == state and step[2] not in reached:
                reached[step[2]] = True
                waiting.append(step[2])
    return sorted(reached)


def trimmed(m):
    # Not through made: a machine handed in may have more steps than made allows.
    states = met(m)
    number = {}
    for k, state in enumerate(states):
        number[state] = k
    # New numbers rise with the old ones, so the steps stay sorted;
    # and a step from a state met leads to a state met.
    steps = [(number[step[0]], step[1], number[step[2]]) for step in m[1] if step[0] in number]
    return (len(states), steps)


def joined(one, other):
    shift = one[0]
    moved = [(step[0] + shift, step[1], step[2] + shift) for step in other[1]]
    # The moved states lie above all of the first machine's, so the steps stay sorted.
    m = (shift + other[0], one[1] + moved)
    check_bounds(m)
    return m

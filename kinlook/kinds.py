"""Kinds: states ranked in rounds, and which of them are alike."""

from kinlook.machines import check_state, exits_of


def key_of(exits, ranks, state):
    return (ranks[state], sorted(set([(deed, ranks[end]) for deed, end in exits[state]])))


def ranks_behind(exits, ranks):
    keys = [key_of(exits, ranks, state) for state in range(len(ranks))]
    different = []
    for key in sorted(keys):
        if key not in different:
            different.append(key)
    return [different.index(key) for key in keys]


def rounds_of(m):
    exits = exits_of(m)
    rounds = [[0] * m[0]]
    ranks = ranks_behind(exits, rounds[0])
    while ranks != rounds[-1]:
        rounds.append(ranks)
        ranks = ranks_behind(exits, ranks)
    return rounds


def kinds_of(m):
    return rounds_of(m)[-1]


def alike(m, p, q):
    check_state(m, p)
    check_state(m, q)
    kinds = kinds_of(m)
    return kinds[p] == kinds[q]

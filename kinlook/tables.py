"""Tables: lists of pairs of states whose steps match one another."""

from kinlook.kinds import alike, kinds_of
from kinlook.machines import check_state, exits_of, ways_of


def check_pairs(m, pairs):
    for pair in pairs:
        check_state(m, pair[0])
        check_state(m, pair[1])


def steps_matched(m, pairs):
    listed = {}
    for pair in pairs:
        listed[pair] = True
    exits = exits_of(m)
    ways = ways_of(m)
    for p, q in listed:
        for deed, end in exits[p]:
            if not any([(end, other) in listed for other in ways.get((q, deed), [])]):
                return False
    return True


def is_table(m, pairs):
    check_pairs(m, pairs)
    # What is asked of the second state is what is asked of the first one, the pairs turned about.
    return steps_matched(m, pairs) and steps_matched(m, [(q, p) for p, q in pairs])


def table_of(m, p, q):
    if not alike(m, p, q):
        return None
    kinds = kinds_of(m)
    pairs = []
    for a in range(m[0]):
        pairs.extend([(a, b) for b in range(m[0]) if kinds[a] == kinds[b]])
    return pairs

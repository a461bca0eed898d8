"""One way: whether a state can do all that another can, with a one-way table or a scroll that tells its lack."""

from kinlook.machines import check_state, exits_of, ways_of
from kinlook.rows import Sheet
from kinlook.tables import check_pairs, steps_matched


def all_missed(missed, end, others):
    for other in others:
        if (end, other) not in missed:
            return False
    return True


def step_missed(exits, ways, missed, p, q):
    for deed, end in exits[p]:
        if all_missed(missed, end, ways.get((q, deed), [])):
            return (deed, end)
    return None


def missed_in(exits, ways, missed, turn):
    found = {}
    for p in range(len(exits)):
        for q in range(len(exits)):
            if (p, q) not in missed:
                step = step_missed(exits, ways, missed, p, q)
                if step is not None:
                    found[(p, q)] = (turn, step[0], step[1])
    return found


def misses_of(m):
    # For each pair missed its round and the step that is missed; pairs of earlier rounds come first.
    exits = exits_of(m)
    ways = ways_of(m)
    missed = {}
    turn = 1
    found = missed_in(exits, ways, missed, turn)
    while found:
        missed.update(found)
        turn = turn + 1
        found = missed_in(exits, ways, missed, turn)
    return missed


def check_both(m, p, q):
    check_state(m, p)
    check_state(m, q)


def missed_at(m, p, q):
    check_both(m, p, q)
    missed = misses_of(m)
    return missed[(p, q)][0] if (p, q) in missed else None


def can(m, p, q):
    return missed_at(m, p, q) is None


def is_one_way(m, pairs):
    check_pairs(m, pairs)
    return steps_matched(m, pairs)


def one_way_of(m, p, q):
    check_both(m, p, q)
    missed = misses_of(m)
    if (p, q) in missed:
        return None
    pairs = []
    for a in range(m[0]):
        pairs.extend([(a, b) for b in range(m[0]) if (a, b) not in missed])
    return pairs


def put_lack(sheet, numbers, missed, ways, pair):
    deed = missed[pair][1]
    end = missed[pair][2]
    parts = [numbers[(end, other)] for other in ways.get((pair[1], deed), [])]
    return sheet.put_over("some", deed, "and", parts)


def lack_of(m, p, q):
    check_both(m, p, q)
    missed = misses_of(m)
    if (p, q) not in missed:
        return None
    ways = ways_of(m)
    sheet = Sheet()
    numbers = {}
    # The step that is missed leads to pairs that were missed in rounds ahead, so their rows are there;
    # two rows at most for each pair keep a lack within 800 rows.
    for pair in missed:
        numbers[pair] = put_lack(sheet, numbers, missed, ways, pair)
    return sheet.scroll_to(numbers[(p, q)])

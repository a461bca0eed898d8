"""Partings: the round in which two states part, and a scroll that holds at the first of them alone."""

from kinlook.kinds import rounds_of
from kinlook.machines import check_state, exits_of
from kinlook.rows import Sheet


def first_apart(rounds, p, q):
    for k, ranks in enumerate(rounds):
        if ranks[p] != ranks[q]:
            return k
    return None


def parted_at(m, p, q):
    check_state(m, p)
    check_state(m, q)
    return first_apart(rounds_of(m), p, q)


def pairs_apart_ahead(rounds, turn):
    found = []
    for p in range(len(rounds[0])):
        for q in range(len(rounds[0])):
            apart = first_apart(rounds, p, q)
            if apart is not None and apart < turn:
                found.append((apart, p, q))
    return sorted(found)


def odd_step(exits, ranks, p, q):
    matches = {}
    for deed, end in exits[q]:
        matches[(deed, ranks[end])] = True
    for deed, end in exits[p]:
        if (deed, ranks[end]) not in matches:
            return (deed, end)
    return None


def one_of_each_rank(exits, ranks, state, deed):
    ends = {}
    for other_deed, end in exits[state]:
        if other_deed == deed:
            ends.setdefault(ranks[end], end)
    return list(ends.values())


def put_parting(sheet, numbers, exits, ranks, p, q):
    step = odd_step(exits, ranks, p, q)
    if step is not None:
        ends = one_of_each_rank(exits, ranks, q, step[0])
        return sheet.put_over("some", step[0], "and", [numbers[(step[1], end)] for end in ends])
    step = odd_step(exits, ranks, q, p)
    ends = one_of_each_rank(exits, ranks, p, step[0])
    return sheet.put_over("all", step[0], "or", [numbers[(end, step[1])] for end in ends])


def parting_of(m, p, q):
    turn = parted_at(m, p, q)
    if turn is None:
        return None
    rounds = rounds_of(m)
    exits = exits_of(m)
    sheet = Sheet()
    numbers = {}
    # A parting draws on those of pairs that part in rounds ahead, so it gets no deeper than its own round;
    # two rows at most for each pair keep it within 800 rows.
    for apart, a, b in pairs_apart_ahead(rounds, turn) + [(turn, p, q)]:
        numbers[(a, b)] = put_parting(sheet, numbers, exits, rounds[apart - 1], a, b)
    return sheet.scroll_to(numbers[(p, q)])

"""Portraits: scrolls that hold at just those states that have the rank of a state in some round."""

from kinlook.deeds import is_deed, is_open
from kinlook.errors import NoDeed, TooBig
from kinlook.kinds import rounds_of
from kinlook.machines import MOST_OPEN_DEEDS, check_state, deeds_of, exits_of
from kinlook.rows import Sheet

MOST_ROUNDS = 4


def check_deeds(m, deeds):
    for deed in deeds:
        if not is_deed(deed):
            raise NoDeed("a word that is no deed")
    for deed in deeds_of(m):
        if deed not in deeds:
            raise NoDeed("a deed of the machine is lacking")


def check_size(different, k):
    if len([deed for deed in different if is_open(deed)]) > MOST_OPEN_DEEDS:
        raise TooBig("too many different open deeds")
    if not 0 <= k <= MOST_ROUNDS:
        raise TooBig("no portrait is told in that round")


def put_portrait(sheet, exits, deeds, numbers):
    parts = []
    for deed in deeds:
        ends = sorted(set([numbers[end] for other, end in exits if other == deed]))
        parts.extend([sheet.put(("some", deed, end)) for end in ends])
        parts.append(sheet.put(("all", deed, sheet.put(("or", tuple(ends))))))
    return sheet.put(("and", tuple(parts)))


def put_round(sheet, exits, ranks, deeds, numbers):
    # States of one rank have one portrait.
    portraits = {}
    for state, rank in enumerate(ranks):
        if rank not in portraits:
            portraits[rank] = put_portrait(sheet, exits[state], deeds, numbers)
    return [portraits[rank] for rank in ranks]


def portrait_of(m, state, deeds, k):
    check_state(m, state)
    check_deeds(m, deeds)
    different = sorted(set(deeds))
    check_size(different, k)
    rounds = rounds_of(m)
    exits = exits_of(m)
    sheet = Sheet()
    numbers = [sheet.put(("and", ()))] * m[0]
    for turn in range(1, k + 1):
        # The last round stands for all behind it.
        ranks = rounds[min(turn, len(rounds) - 1)]
        numbers = put_round(sheet, exits, ranks, different, numbers)
    return sheet.scroll_to(numbers[state])

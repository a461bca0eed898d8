"""Scrolls: what is one, where it holds, how deep it is, and how it is told without "not"."""

from kinlook.deeds import is_deed
from kinlook.errors import NoScroll, TooBig
from kinlook.machines import check_state, is_whole, ways_of
from kinlook.rows import Sheet, drawn, renumbered

MOST_ROWS = 2000
MOST_PARTS = 200
MOST_ROWS_TURNED = 1000
OPPOSITES = {"some": "all", "all": "some", "and": "or", "or": "and"}


def is_ahead(k, thing):
    return is_whole(thing) and 0 <= thing < k


def are_parts(k, thing):
    if not isinstance(thing, tuple) or len(thing) > MOST_PARTS:
        return False
    return all([is_ahead(k, part) for part in thing])


def is_row(k, thing):
    if not isinstance(thing, tuple) or len(thing) == 0 or not isinstance(thing[0], str):
        return False
    if thing[0] == "some" or thing[0] == "all":
        return len(thing) == 3 and is_deed(thing[1]) and is_ahead(k, thing[2])
    if thing[0] == "not":
        return len(thing) == 2 and is_ahead(k, thing[1])
    if thing[0] == "and" or thing[0] == "or":
        return len(thing) == 2 and are_parts(k, thing[1])
    return False


def is_scroll(thing):
    if not isinstance(thing, list) or not 1 <= len(thing) <= MOST_ROWS:
        return False
    return all([is_row(k, row) for k, row in enumerate(thing)])


def check_scroll(thing):
    if not is_scroll(thing):
        raise NoScroll("this is no scroll")


def row_holds(ways, truths, row, state):
    if row[0] == "not":
        return not truths[row[1]][state]
    if row[0] == "and":
        return all([truths[part][state] for part in row[1]])
    if row[0] == "or":
        return any([truths[part][state] for part in row[1]])
    ends = [truths[row[2]][end] for end in ways.get((state, row[1]), [])]
    return any(ends) if row[0] == "some" else all(ends)


def truths_of(m, scroll):
    ways = ways_of(m)
    truths = []
    for row in scroll:
        truths.append([row_holds(ways, truths, row, state) for state in range(m[0])])
    return truths


def states_where(truth):
    return [state for state, held in enumerate(truth) if held]


def held_at(m, scroll):
    check_scroll(scroll)
    return [states_where(truth) for truth in truths_of(m, scroll)]


def holds(m, scroll, state):
    check_scroll(scroll)
    check_state(m, state)
    return truths_of(m, scroll)[-1][state]


def depth_of(scroll):
    check_scroll(scroll)
    depths = []
    for row in scroll:
        deepest = max([depths[part] for part in drawn(row)], default=0)
        depths.append(deepest + 1 if row[0] == "some" or row[0] == "all" else deepest)
    return depths[-1]


def opposite(row, numbers):
    turned = renumbered(row, numbers)
    return (OPPOSITES[turned[0]],) + turned[1:]


def without_not(scroll):
    check_scroll(scroll)
    if len(scroll) > MOST_ROWS_TURNED:
        raise TooBig("too many rows to be told without not")
    sheet = Sheet()
    # For each row of the scroll: which new row holds where it does, and which one where it doesn't.
    same = []
    turned = []
    for row in scroll:
        if row[0] == "not":
            same.append(turned[row[1]])
            turned.append(same[row[1]])
        else:
            same.append(sheet.put(renumbered(row, same)))
            turned.append(sheet.put(opposite(row, turned)))
    return sheet.scroll_to(same[-1])

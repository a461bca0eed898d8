"""Rows of scrolls: what a row draws on, rows numbered anew, rows put behind others."""


def drawn(row):
    if row[0] == "some" or row[0] == "all":
        return [row[2]]
    if row[0] == "not":
        return [row[1]]
    return list(row[1])


def renumbered(row, numbers):
    if row[0] == "some" or row[0] == "all":
        return (row[0], row[1], numbers[row[2]])
    if row[0] == "not":
        return (row[0], numbers[row[1]])
    return (row[0], tuple([numbers[part] for part in row[1]]))


def put(rows, row):
    rows.append(row)
    return len(rows) - 1


def pruned(rows, last):
    # A row draws on rows ahead of it alone, so one walk from the last one up finds all that is read.
    wanted = {last: True}
    for k in range(last, -1, -1):
        if k in wanted:
            for part in drawn(rows[k]):
                wanted[part] = True
    numbers = {}
    kept = []
    for k in sorted(wanted):
        numbers[k] = put(kept, renumbered(rows[k], numbers))
    return kept

"""Rows of scrolls: what a row draws on, rows numbered anew, and a sheet to put rows down on."""


def drawn(row):
    if row[0] == "some" or row[0] == "all":
        return [row[2]]
    if row[0] == "not":
        return [row[1]]
    return list(row[1])


def renumbered(row, numbers):
    if row[0] == "some" or row[0] == "all":
        return (row[0], row[1], numbers[row[2]])
    if row[0] == "not":
        return (row[0], numbers[row[1]])
    return (row[0], tuple([numbers[part] for part in row[1]]))


# Rows are kept each once, so that scrolls stay short.
class Sheet:
    def __init__(self):
        self.rows = []
        self.places = {}

    def put(self, row):
        if row not in self.places:
            self.places[row] = len(self.rows)
            self.rows.append(row)
        return self.places[row]

    def put_over(self, word, deed, joint, parts):
        different = sorted(set(parts))
        # One part by itself says what it would say under "and" or "or".
        inner = different[0] if len(different) == 1 else self.put((joint, tuple(different)))
        return self.put((word, deed, inner))

    def rows_read(self, last):
        # A row draws on rows ahead of it alone, so one walk from the last one up finds them all.
        wanted = {last: True}
        for k in range(last, -1, -1):
            if k in wanted:
                for part in drawn(self.rows[k]):
                    wanted[part] = True
        return sorted(wanted)

    def scroll_to(self, last):
        numbers = {}
        scroll = []
        for k in self.rows_read(last):
            numbers[k] = len(scroll)
            scroll.append(renumbered(self.rows[k], numbers))
        return scroll

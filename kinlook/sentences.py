"""Sentences as text: scrolls shown and read row by row, and sentences in words."""

from kinlook.errors import NoScroll, NoText, TooBig
from kinlook.rows import Sheet, drawn
from kinlook.scrolls import check_scroll, is_scroll
from kinlook.texts import read_deed, read_number

MOST_WORDS = 200
ALONE = {"and": "yes", "or": "no"}
JOINTS = {"and": "both", "or": "either"}


def check_text(thing):
    if not isinstance(thing, str):
        raise NoText("this is no text")


def shown_row(row):
    words = [row[0]]
    if row[0] == "some" or row[0] == "all":
        words.append(row[1])
    return " ".join(words + [str(part) for part in drawn(row)])


def show_scroll(scroll):
    check_scroll(scroll)
    return "; ".join([shown_row(row) for row in scroll])


def read_row(text):
    words = text.split(" ")
    word = words[0]
    if (word == "some" or word == "all") and len(words) == 3:
        return (word, read_deed(words[1]), read_number(words[2]))
    if word == "not" and len(words) == 2:
        return (word, read_number(words[1]))
    if word == "and" or word == "or":
        return (word, tuple([read_number(part) for part in words[1:]]))
    raise NoText("a row is not of the form")


def read_scroll(text):
    check_text(text)
    # The whole form is looked at first, so that NoText goes ahead of NoScroll.
    rows = [read_row(part) for part in text.split("; ")]
    if not is_scroll(rows):
        raise NoScroll("these rows are no scroll")
    return rows


def heads_of(words):
    # From the left, as only there it is seen whether a word like some begins a sentence or is a deed.
    heads = []
    k = 0
    while k < len(words):
        if words[k] == "some" or words[k] == "all":
            if k + 1 == len(words):
                raise NoText("no deed stands behind the last word")
            heads.append((words[k], read_deed(words[k + 1])))
            k = k + 2
        else:
            heads.append((words[k],))
            k = k + 1
    return heads


def taken(waiting):
    if len(waiting) == 0:
        raise NoText("a sentence is lacking")
    return waiting.pop()


def row_of(head, waiting):
    if head[0] == "some" or head[0] == "all":
        return (head[0], head[1], taken(waiting))
    if head[0] == "not":
        return ("not", taken(waiting))
    for word in ("and", "or"):
        if head[0] == ALONE[word]:
            return (word, ())
        if head[0] == JOINTS[word]:
            first = taken(waiting)
            second = taken(waiting)
            return (word, (first, second))
    raise NoText("a word begins no sentence")


def read_sentence(text):
    check_text(text)
    words = text.split(" ")
    if len(words) > MOST_WORDS:
        raise NoText("the sentence has too many words")
    sheet = Sheet()
    # From the right, so that the sentences that a head needs are there ahead of it, the nearest one on top.
    waiting = []
    for head in reversed(heads_of(words)):
        waiting.append(sheet.put(row_of(head, waiting)))
    if len(waiting) != 1:
        raise NoText("more than one sentence")
    return sheet.scroll_to(waiting[0])


def words_joined(word, parts):
    if len(parts) == 0:
        return [ALONE[word]]
    words = []
    for part in parts[:-1]:
        words.extend([JOINTS[word]] + part)
    return words + parts[-1]


def words_of(row, told):
    parts = [told[part] for part in drawn(row)]
    if None in parts:
        return None
    if row[0] == "some" or row[0] == "all":
        words = [row[0], row[1]] + parts[0]
    elif row[0] == "not":
        words = ["not"] + parts[0]
    else:
        words = words_joined(row[0], parts)
    return words if len(words) <= MOST_WORDS else None


def tell(scroll):
    check_scroll(scroll)
    # None stands for too many words: rows that nothing reads may have them, so it is no refusal yet.
    told = []
    for row in scroll:
        told.append(words_of(row, told))
    if told[-1] is None:
        raise TooBig("the sentence would have too many words")
    return " ".join(told[-1])

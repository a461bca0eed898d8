"""Machines as text: shown, and read again."""

from kinlook.deeds import is_deed
from kinlook.errors import NoText
from kinlook.machines import made

FIGURES = "0123456789"
MOST_FIGURES = 4


def shown_step(step):
    start = step[0]
    deed = step[1]
    end = step[2]
    return f"{start} {deed} {end}"


def shown(m):
    many = m[0]
    if not m[1]:
        return f"{many}:"
    steps = ", ".join([shown_step(step) for step in m[1]])
    return f"{many}: {steps}"


def is_number(word):
    if not 1 <= len(word) <= MOST_FIGURES:
        return False
    # Not isdigit: it also takes figures of other scripts.
    if not all([sign in FIGURES for sign in word]):
        return False
    return word == "0" or word[0] != "0"


def read_number(word):
    if not is_number(word):
        raise NoText("a number is not of the form")
    return int(word)


def read_deed(word):
    if not is_deed(word):
        raise NoText("a word that is no deed stands where a deed ought to stand")
    return word


def read_step(text):
    words = text.split(" ")
    if len(words) != 3:
        raise NoText("a step is not three words")
    return (read_number(words[0]), read_deed(words[1]), read_number(words[2]))


def read_steps(text):
    if text == "":
        return []
    if not text.startswith(" "):
        raise NoText("no blank stands behind the colon")
    return [read_step(part) for part in text[1:].split(", ")]


def read(text):
    if not isinstance(text, str):
        raise NoText("this is no text")
    halves = text.partition(":")
    if halves[1] == "":
        raise NoText("there is no colon")
    # The whole form is looked at first, so that NoText goes ahead of what made refuses.
    many = read_number(halves[0])
    steps = read_steps(halves[2])
    return made(many, steps)

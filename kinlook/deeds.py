"""Deeds: the hidden one, and the open ones of small letters."""

HIDDEN = "*"
LETTERS = "abcdefghijklmnopqrstuvwxyz"
MOST_LETTERS = 6


def is_open(thing):
    if not isinstance(thing, str) or not 1 <= len(thing) <= MOST_LETTERS:
        return False
    # Not isalpha or islower: those also take letters beyond a to z.
    return all([sign in LETTERS for sign in thing])


def is_deed(thing):
    return is_open(thing) or (isinstance(thing, str) and thing == HIDDEN)

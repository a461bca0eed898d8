"""Frames: rows that put a machine into something larger, one behind the other."""

from kinlook.errors import NoFrame
from kinlook.mixes import beside, hide, rename


def done(m, row):
    if row[0] == "right":
        return beside(m, row[1], row[2])
    if row[0] == "left":
        return beside(row[1], m, row[2])
    if row[0] == "hide":
        return hide(m, row[1])
    if row[0] == "rename":
        return rename(m, row[1])
    raise NoFrame("a row of the frame begins with another word")


def framed(m, frame):
    # A list of its own, so that with no rows the asker's machine is not given back itself.
    told = (m[0], list(m[1]))
    for row in frame:
        told = done(told, row)
    return told

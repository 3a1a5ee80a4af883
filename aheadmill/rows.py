"""Rows: what each kind wants, fills and does."""

from aheadmill.words import WAYS, worked

GROUPS = {"times": 1, "share": 2, "rest": 2, "load": 3, "store": 3, "jump": 4, "go": 4, "fault": 4}


def wants(row):
    kind = row[0]
    if kind in WAYS:
        return (row[2], row[3])
    if kind == "store":
        return (row[1], row[2])
    if kind == "move" or kind == "load":
        return (row[2],)
    if kind == "jump":
        return (row[1],)
    return ()


def fills(row):
    kind = row[0]
    if kind in WAYS or kind in ("set", "move", "load"):
        return row[1]
    return None


def group_of(row):
    return GROUPS.get(row[0], 0)


def place_of(row, words):
    if row[0] == "load":
        return words[0] + row[3]
    if row[0] == "store":
        return words[1] + row[3]
    return None


def goes(row, at, words):
    if row[0] == "go":
        return row[1]
    if row[0] == "jump" and words[0] != 0:
        return row[2]
    return at + 1


def fault_of(row, words, room):
    kind = row[0]
    if kind == "fault":
        return ("told", row[1])
    if (kind == "share" or kind == "rest") and words[1] == 0:
        return ("nought", words[0])
    place = place_of(row, words)
    if place is not None and not 0 <= place < room:
        return ("place", place)
    return None


# The word that a row without a fault brings into its box or its place.
def brought(row, words, held):
    kind = row[0]
    if kind in WAYS:
        return worked(kind, words[0], words[1])
    if kind == "set":
        return row[2]
    if kind == "move" or kind == "store":
        return words[0]
    if kind == "load":
        return held
    return None


def made(row, at, words, room, held):
    fault = fault_of(row, words, room)
    if fault is not None:
        return (at, None, None, None, None, fault)
    return (at, fills(row), place_of(row, words), brought(row, words, held), goes(row, at, words), None)

"""Words of 64 bits, and the twelve ways in which two of them are worked to one."""

from aheadmill.errors import Nought

BITS = 64
BEYOND = 18446744073709551616

WAYS = ("sum", "less", "times", "share", "rest", "both", "some", "odd", "up", "down", "below", "same")


def word_of(number):
    return number % BEYOND


def shared(one, other):
    if other == 0:
        raise Nought("a word can't be shared by 0")
    return divmod(one, other)


# A great word as the number of places would make Python build a number of that many bits,
# so moves that leave nothing are told apart first.
def leaves_some(places):
    return 0 <= places < BITS


def moved_up(one, places):
    return word_of(one << places) if leaves_some(places) else 0


def moved_down(one, places):
    return one >> places if leaves_some(places) else 0


def worked(way, one, other):
    if way == "sum":
        return word_of(one + other)
    if way == "less":
        return word_of(one - other)
    if way == "times":
        return word_of(one * other)
    if way == "share":
        return shared(one, other)[0]
    if way == "rest":
        return shared(one, other)[1]
    if way == "both":
        return one & other
    if way == "some":
        return one | other
    if way == "odd":
        return one ^ other
    if way == "up":
        return moved_up(one, other)
    if way == "down":
        return moved_down(one, other)
    if way == "below":
        return 1 if one < other else 0
    return 1 if one == other else 0

"""Fetching: the fourth part of a turn."""

from aheadmill.rows import goes, wants


def fetch_all(window, ledger):
    put = 0
    while put < window.wide and len(window.slots) < window.size and not window.at_end():
        fetch(window, ledger)
        put += 1


def fetch(window, ledger):
    slot = window.enter()
    give_known(window, slot, ledger.state[1])
    if slot.row[0] == "load":
        slot.dares = ledger.nerve.guess(slot.at)
    slot.chosen = row_behind(slot, ledger.guesser)
    window.ahead = slot.chosen


def give_known(window, slot, boxes):
    for want, box in enumerate(wants(slot.row)):
        word = known_word(window.slot_of(slot.names[want]), boxes[box])
        if word is not None:
            window.give(slot, want, word)


# Where the giver isn't in the window no row there fills the box, so the word in the mill's stand is the one to give.
def known_word(giver, word):
    if giver is None:
        return word
    return giver.deed[3] if giver.finished is not None else None


def row_behind(slot, guesser):
    if slot.row[0] == "jump":
        return slot.row[2] if guesser.guess(slot.at) else slot.at + 1
    return goes(slot.row, slot.at, ())

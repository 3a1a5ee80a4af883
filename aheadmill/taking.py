"""Taking off: the first part of a turn, and what is kept of the rows that were taken off."""

from aheadmill.plain import behind, poked


class Ledger:
    # storers has for each place the ticket of the last row taken off that stored there, as long as no word is poked
    # there; gone has for each store that was taken off the turn of it. broken tells that a fault was taken off.
    def __init__(self, stand, guesser, nerve):
        self.state = stand
        self.guesser = guesser
        self.nerve = nerve
        self.slips = []
        self.storers = {}
        self.gone = {}
        self.broken = False

    def poke(self, place, word):
        self.state = poked(self.state, place, word)
        self.storers.pop(place, None)


def take_off(window, ledger):
    told = []
    while len(told) < window.wide and len(window.slots) > 0 and window.slots[0].finished is not None:
        slot = window.slots[0]
        take(window, ledger, slot)
        told.append(slot.slip())
    return told


def take(window, ledger, slot):
    slot.off = window.now
    window.slots = window.slots[1:]
    ledger.slips.append(slot.slip())
    ledger.state = behind(ledger.state, slot.deed)
    if slot.deed[5] is not None:
        ledger.broken = True
        # From its own ticket on, as a store leaves the shelf even where it is a fault.
        window.throw(slot.ticket)
    else:
        note_memory(window, ledger, slot)
        teach(ledger, slot)


def note_memory(window, ledger, slot):
    if slot.row[0] == "store":
        ledger.storers[slot.deed[2]] = slot.ticket
        ledger.gone[slot.ticket] = slot.off
    if slot.row[0] == "store" or slot.row[0] == "load":
        window.shelf.leave(slot.ticket)


def teach(ledger, slot):
    # The word is asked, not the row that came next: a target may be the next row.
    if slot.row[0] == "jump":
        ledger.guesser.learn(slot.at, slot.words[0] != 0)
    if slot.row[0] == "load":
        ledger.nerve.learn(slot.at, not was_near(ledger, slot))


# Whether the store that gave a load its word was still in the window when the load was put in.
def was_near(ledger, slot):
    return slot.source is not None and ledger.gone[slot.source] > slot.put

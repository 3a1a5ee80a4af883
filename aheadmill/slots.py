"""Slots: what a window keeps of each row that was put into it, and the window itself."""

from aheadmill.benches import Benches
from aheadmill.names import Names
from aheadmill.rows import fills, place_of, wants
from aheadmill.shelf import Shelf


class Slot:
    # names and words have a ticket and a word, or None, for each want. chosen is the row at which the mill goes on
    # fetching behind this one. Of a load that has started, source is its giver and held the word that it took.
    def __init__(self, ticket, at, row, names, put):
        self.ticket = ticket
        self.at = at
        self.row = row
        self.names = names
        self.words = [None] * len(names)
        self.chosen = at + 1
        self.dares = False
        self.source = None
        self.held = None
        self.deed = None
        self.put = put
        self.started = None
        self.finished = None
        self.off = None

    def ready(self):
        return None not in self.words

    def spot(self):
        return place_of(self.row, tuple(self.words))

    def slip(self):
        times = (self.put, self.started, self.finished, self.off)
        return (self.ticket, self.at, self.names, self.source, self.deed, times)


class Window:
    # slots are kept oldest first. ahead is the row at which the mill fetches, now the number of the turn at hand,
    # tickets how many were given out: tickets that were thrown out don't come again.
    def __init__(self, program, at, size, wide, table):
        self.program = list(program)
        self.ahead = at
        self.size = size
        self.wide = wide
        self.slots = []
        self.names = Names()
        self.benches = Benches(table)
        self.shelf = Shelf()
        self.tickets = 0
        self.thrown = 0
        self.now = 0

    def at_end(self):
        return self.ahead >= len(self.program)

    def slot_of(self, ticket):
        for slot in self.slots:
            if slot.ticket == ticket:
                return slot
        return None

    # The row at which the mill fetches becomes the youngest slot, its words not given yet.
    def enter(self):
        row = self.program[self.ahead]
        slot = Slot(self.tickets, self.ahead, row, self.names.givers(wants(row)), self.now)
        self.tickets += 1
        self.slots.append(slot)
        # Only now: a row that fills a box which it wants has an older one for its giver.
        if fills(row) is not None:
            self.names.fill(slot.ticket, fills(row))
        if row[0] == "store":
            self.shelf.store(slot.ticket)
        return slot

    def give(self, slot, want, word):
        slot.words[want] = word
        if slot.row[0] == "store" and want == 0:
            self.shelf.worded(slot.ticket, word)
        if slot.row[0] == "store" and want == 1:
            self.place(slot)

    # A load that passed over this store, and took from an older one or the memory, has a wrong word.
    def place(self, slot):
        bitten = self.shelf.placed(slot.ticket, slot.spot())
        if bitten is not None:
            self.ahead = self.slot_of(bitten).at
            self.throw(bitten)

    # Names are kept of rows that were taken off, too: only what is thrown out is forgotten there.
    def throw(self, ticket):
        left = [slot for slot in self.slots if slot.ticket < ticket]
        self.thrown += len(self.slots) - len(left)
        self.slots = left
        self.names.throw(ticket)
        self.benches.throw(ticket)
        self.shelf.throw(ticket)

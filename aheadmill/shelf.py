"""The shelf: the stores of a window, and the loads that have started, by their tickets."""

from aheadmill.errors import NoTicket


class Shelf:
    # For each store its place and its word, None for what isn't known; for each load its place and its giver.
    def __init__(self):
        self.kept = {}
        self.begun = {}

    def store(self, ticket):
        if ticket in self.begun or any([other >= ticket for other in self.kept]):
            raise NoTicket("the ticket isn't greater than those of the stores, or a load has it")
        self.kept[ticket] = (None, None)

    def placed(self, ticket, place):
        known = self.kept.get(ticket)
        if known is None or known[0] is not None:
            raise NoTicket("no store with this ticket waits for its place")
        self.kept[ticket] = (place, known[1])
        return min(self.bitten(ticket, place), default=None)

    # The loads that took their word too early, since they passed over this store.
    def bitten(self, ticket, place):
        told = []
        for other in self.begun:
            giver = self.begun[other][1]
            if other > ticket and self.begun[other][0] == place and (giver is None or giver < ticket):
                told.append(other)
        return told

    def worded(self, ticket, word):
        known = self.kept.get(ticket)
        if known is None or known[1] is not None:
            raise NoTicket("no store with this ticket waits for its word")
        self.kept[ticket] = (known[0], word)

    def look(self, ticket, place, dares):
        elder = [other for other in self.kept if other < ticket]
        for other in sorted(elder, reverse=True):
            spot = self.kept[other][0]
            word = self.kept[other][1]
            if spot is None and not dares:
                return None
            if spot == place:
                return None if word is None else (other, word)
        return (None, None)

    def loaded(self, ticket, place, giver):
        if ticket in self.begun or ticket in self.kept:
            raise NoTicket("the ticket lies on the shelf already")
        self.begun[ticket] = (place, giver)

    def leave(self, ticket):
        if ticket in self.kept:
            self.kept.pop(ticket)
        elif ticket in self.begun:
            self.begun.pop(ticket)
        else:
            raise NoTicket("neither a store nor a load has this ticket")

    def throw(self, ticket):
        stores = [other for other in self.kept if other >= ticket]
        loads = [other for other in self.begun if other >= ticket]
        for other in stores:
            self.kept.pop(other)
        for other in loads:
            self.begun.pop(other)
        return len(stores) + len(loads)

    def stores(self):
        return [(ticket,) + self.kept[ticket] for ticket in sorted(self.kept)]

    def loads(self):
        return [(ticket,) + self.begun[ticket] for ticket in sorted(self.begun)]

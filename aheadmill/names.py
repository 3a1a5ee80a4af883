"""Names: which row fills a box, by tickets."""

from aheadmill.errors import NoTicket


class Names:
    # For each box the tickets that fill it, rising: an elder one is the giver again where the younger are thrown.
    def __init__(self):
        self.filled = {}

    def fill(self, ticket, box):
        for other in list(self.filled):
            giver = self.giver(other)
            if giver is not None and giver >= ticket:
                raise NoTicket("the ticket isn't greater than all that fill a box")
        self.filled.setdefault(box, []).append(ticket)

    def giver(self, box):
        tickets = self.filled.get(box, [])
        return tickets[-1] if tickets != [] else None

    def givers(self, boxes):
        return tuple([self.giver(box) for box in boxes])

    def throw(self, ticket):
        thrown = 0
        for box in list(self.filled):
            tickets = self.filled[box]
            while tickets != [] and tickets[-1] >= ticket:
                tickets.pop()
                thrown += 1
        return thrown

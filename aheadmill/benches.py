"""Benches: where the rows of a window are worked, in groups."""

from aheadmill.errors import Busy, NoTicket


class Benches:
    # For each ticket at work its group and the turn in which it is due.
    def __init__(self, table):
        self.table = tuple(table)
        self.working = {}

    def free(self, group):
        there = [ticket for ticket in self.working if self.working[ticket][0] == group]
        return self.table[group][0] - len(there)

    def start(self, ticket, group, turn):
        if ticket in self.working:
            raise NoTicket("the ticket is at work already")
        if self.free(group) <= 0:
            raise Busy("no bench of the group is free")
        due = turn + self.table[group][1]
        self.working[ticket] = (group, due)
        return due

    def done(self, turn):
        tickets = sorted([ticket for ticket in self.working if self.working[ticket][1] <= turn])
        for ticket in tickets:
            self.working.pop(ticket)
        return tickets

    def busy(self):
        return [(ticket,) + self.working[ticket] for ticket in sorted(self.working)]

    def throw(self, ticket):
        tickets = [other for other in self.working if other >= ticket]
        for other in tickets:
            self.working.pop(other)
        return len(tickets)

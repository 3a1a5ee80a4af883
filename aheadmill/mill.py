"""The mill: it runs a program ahead of itself and takes rows off in their order."""

from aheadmill.errors import Halted
from aheadmill.fetching import fetch_all
from aheadmill.guessers import Guesser
from aheadmill.slots import Window
from aheadmill.taking import Ledger, take_off
from aheadmill.working import finish_all, start_all

TABLE = ((2, 1), (1, 3), (1, 6), (1, 2), (1, 1))


class Mill:
    def __init__(self, program, stand, size=8, wide=2, table=None, guesser=None, nerve=None):
        self.window = Window(program, stand[0], size, wide, TABLE if table is None else table)
        self.ledger = Ledger(stand, or_plain(guesser), or_plain(nerve))

    def turn(self):
        self.refuse_halted()
        window = self.window
        window.now += 1
        told = take_off(window, self.ledger)
        if self.halted() is None:
            finish_all(window, self.ledger)
            start_all(window, self.ledger)
            fetch_all(window, self.ledger)
        return told

    def turns(self, many):
        done = 0
        while done < many and self.halted() is None:
            self.turn()
            done += 1
        return done

    def taken(self):
        return list(self.ledger.slips)

    def inside(self):
        return [slot.slip() for slot in self.window.slots]

    def stand(self):
        return self.ledger.state

    def halted(self):
        if self.ledger.broken:
            return "fault"
        if len(self.window.slots) == 0 and self.window.at_end():
            return "end"
        return None

    def refuse_halted(self):
        if self.halted() is not None:
            raise Halted("the mill has halted")

    def counts(self):
        return (self.window.tickets, len(self.ledger.slips), self.window.thrown)

    # The ledger comes first: where it refuses the place nothing is changed.
    def poke(self, place, word):
        self.refuse_halted()
        self.ledger.poke(place, word)
        window = self.window
        if len(window.slots) > 0:
            window.throw(window.slots[0].ticket)
        window.ahead = self.ledger.state[0]
        return len(self.ledger.slips)


def or_plain(guesser):
    return Guesser() if guesser is None else guesser

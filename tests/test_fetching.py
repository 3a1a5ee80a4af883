import random
import unittest

from aheadmill.fetching import fetch_all
from aheadmill.guessers import Always, Guesser, Last, Listed
from aheadmill.taking import Ledger, take_off
from aheadmill.working import finish_all, start_all
from tests.helper import KINDS, Case, Writing, any_row, ledger_of, window_of

BOXES = (0, 1, 2, 3, 4, 5, 6, 7)
MEMORY = (20, 21, 22, 23, 24, 25, 26, 27)
MANY = ((8, 1),) * 5


# Writes down for which rows it was asked.
class Asked(Guesser):
    def __init__(self, one):
        Guesser.__init__(self)
        self.one = one
        self.asked = []

    def guess(self, at):
        self.asked.append(at)
        return self.one.guess(at)


def turn(window, ledger):
    window.now += 1
    told = take_off(window, ledger)
    finish_all(window, ledger)
    start_all(window, ledger)
    fetch_all(window, ledger)
    return told


class HowMany(Case):
    def test_wide_size_and_the_end(self):
        for rows in (0, 1, 3, 8, 40):
            for size in (1, 2, 5, 32):
                for wide in range(1, 9):
                    window, ledger = window_of([("set", 0, 1)] * rows, size, wide), ledger_of()
                    for part in range(1, 6):
                        fetch_all(window, ledger)
                        put = min(rows, size, wide * part)
                        self.told([slot.ticket for slot in window.slots], list(range(put)))
                        self.told((window.ahead, window.tickets), (put, put))

    def test_a_window_with_slips_in_it(self):
        window, ledger = window_of([("set", 0, 1)] * 9, 5, 3), ledger_of()
        fetch_all(window, ledger)
        window.throw(1)
        fetch_all(window, ledger)
        self.told([slot.ticket for slot in window.slots], [0, 3, 4, 5])
        fetch_all(window, ledger)
        self.told([slot.ticket for slot in window.slots], [0, 3, 4, 5, 6])
        fetch_all(window, ledger)
        self.told(len(window.slots), 5)


class Ways(Case):
    def behind(self, row, at, guesser):
        program = [("set", 0, 1)] * at + [row] + [("set", 0, 1)] * 5
        window, ledger = window_of(program, wide=1), Ledger((at, BOXES, MEMORY), guesser, Guesser())
        window.ahead = at
        fetch_all(window, ledger)
        self.told(window.slots[0].chosen, window.ahead)
        return window.ahead

    def test_jumps(self):
        for at in (0, 3):
            for target in range(9):
                self.told(self.behind(("jump", 1, target), at, Guesser()), at + 1)
                self.told(self.behind(("jump", 0, target), at, Always()), target)

    def test_the_rows_number_is_asked(self):
        guesser = Last()
        guesser.learn(3, True)
        self.told(self.behind(("jump", 0, 1), 3, guesser), 1)
        self.told(self.behind(("jump", 0, 1), 2, guesser), 3)
        for at in (0, 7):
            asked = Asked(Guesser())
            self.behind(("jump", 0, 1), at, asked)
            self.told(set(asked.asked), {at})

    def test_all_other_kinds(self):
        source = random.Random(3)
        for kind in KINDS:
            for at in (0, 4):
                if kind not in ("jump", "go"):
                    self.told(self.behind(any_row(source, kind, 5, 7), at, Always()), at + 1)
        for at in (0, 4):
            for target in range(10):
                self.told(self.behind(("go", target), at, Guesser()), target)

    def test_only_jumps_ask_the_guesser(self):
        source = random.Random(4)
        for kind in KINDS:
            asked = Asked(Always())
            self.behind(any_row(source, kind, 5, 7), 1, asked)
            self.told(asked.asked != [], kind == "jump")


class Nerve(Case):
    def test_only_loads_ask(self):
        source = random.Random(5)
        for kind in KINDS:
            asked = Asked(Always())
            window = window_of([any_row(source, kind, 1, 7)])
            fetch_all(window, Ledger((0, BOXES, MEMORY), Guesser(), asked))
            self.told(set(asked.asked), {0} if kind == "load" else set())
            self.told(window.slots[0].dares, kind == "load")

    def test_the_rows_number(self):
        nerve = Last()
        nerve.learn(1, True)
        window = window_of([("load", 0, 1, 0)] * 3)
        fetch_all(window, Ledger((0, BOXES, MEMORY), Guesser(), nerve))
        self.told([slot.dares for slot in window.slots], [False, True, False])

    def test_once_for_all(self):
        # The nerve guesses False first and True behind a lesson: the load waits for the store nevertheless.
        nerve = Listed([False, True, True, True, True])
        program = [("rest", 1, 7, 4), ("store", 5, 1, 0), ("load", 0, 3, 0), ("load", 2, 3, 0)]
        window = window_of(program, 32, 3, ((8, 1), (8, 1), (8, 9), (8, 1), (8, 1)))
        ledger = Ledger((0, BOXES, MEMORY), Guesser(), nerve)
        fetch_all(window, ledger)
        nerve.learn(0, True)
        turn(window, ledger)
        turn(window, ledger)
        self.told([slot.dares for slot in window.slots[2:]], [False, True])
        self.told([slot.started for slot in window.slots], [2, None, None, 3])


class Names(Case):
    def test_the_youngest_in_the_window_else_the_last_taken_off(self):
        program = [("set", 0, 7), ("set", 1, 8), ("set", 0, 9), ("sum", 2, 0, 1), ("sum", 0, 0, 2), ("move", 3, 0)]
        window, ledger = window_of(program, 32, 1, MANY), Ledger((0, BOXES, MEMORY), Guesser(), Guesser())
        names = {}
        for count in range(12):
            turn(window, ledger)
            names.update({slot.ticket: slot.names for slot in window.slots})
        self.told(names, {0: (), 1: (), 2: (), 3: (2, 1), 4: (2, 3), 5: (4,)})


class Words(Case):
    def test_of_the_start(self):
        window, ledger = window_of([("sum", 0, 3, 5), ("store", 6, 2, 4), ("jump", 7, 0)]), ledger_of(BOXES, MEMORY)
        fetch_all(window, ledger)
        self.told([slot.words for slot in window.slots], [[3, 5], [6, 2], [7]])
        self.told([slot.names for slot in window.slots], [(None, None), (None, None), (None,)])
        self.told(window.shelf.stores(), [(1, 6, 6)])

    def test_of_one_in_the_window(self):
        # In turn 4 the first three are finished or not: the set is, the product takes 5 turns, the share is a fault.
        program = [("set", 0, 9), ("times", 1, 2, 3), ("share", 4, 5, 6), ("sum", 7, 0, 1), ("sum", 7, 4, 2)]
        boxes = (0, 1, 2, 3, 4, 5, 0, 7)
        window = window_of(program, 32, 3, ((8, 1), (8, 5), (8, 1), (8, 1), (8, 1)))
        ledger = ledger_of(boxes, MEMORY)
        fetch_all(window, ledger)
        window.wide = 0
        turn(window, ledger)
        turn(window, ledger)
        window.wide = 2
        fetch_all(window, ledger)
        self.told([slot.words for slot in window.slots[3:]], [[9, None], [None, 2]])
        self.told([slot.names for slot in window.slots[3:]], [(0, 1), (2, None)])

    def test_of_one_that_was_taken_off(self):
        window, ledger = window_of([("set", 0, 9), ("store", 0, 0, -5)], 1, 1, MANY), ledger_of(BOXES, MEMORY)
        fetch_all(window, ledger)
        for count in range(3):
            turn(window, ledger)
        slot = window.slots[0]
        self.told((slot.ticket, slot.names, slot.words), (1, (0, 0), [9, 9]))
        self.told(window.shelf.stores(), [(1, 4, 9)])

    def test_lessons_are_not_learned_here(self):
        ledger = Ledger((0, BOXES, MEMORY), Writing(Always()), Writing(Always()))
        fetch_all(window_of([("jump", 1, 1), ("load", 0, 1, 0), ("jump", 0, 0)]), ledger)
        self.told((ledger.guesser.written, ledger.nerve.written), ([], []))


if __name__ == "__main__":
    unittest.main()

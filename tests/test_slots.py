import copy
import random
import unittest

from aheadmill.slots import Slot
from tests.helper import KINDS, Case, any_row, put_in, wanted, window_of

BOXES = (10, 11, 12, 13, 14, 15, 16, 17)


class Slips(Case):
    def test_of_a_row_just_put_in(self):
        slot = Slot(7, 3, ("sum", 0, 1, 2), (4, None), 9)
        self.told(slot.slip(), (7, 3, (4, None), None, None, (9, None, None, None)))
        self.told(Slot(0, 0, ("go", 0), (), 1).slip(), (0, 0, (), None, None, (1, None, None, None)))

    def test_as_it_stands_then(self):
        slot = Slot(7, 3, ("load", 0, 1, 0), (4,), 9)
        slips = [slot.slip()]
        slot.started, slot.source = 10, 2
        slips.append(slot.slip())
        slot.finished, slot.deed = 12, (3, 0, 5, 1, 4, None)
        slips.append(slot.slip())
        slot.off = 14
        slips.append(slot.slip())
        self.told(slips, [
            (7, 3, (4,), None, None, (9, None, None, None)),
            (7, 3, (4,), 2, None, (9, 10, None, None)),
            (7, 3, (4,), 2, (3, 0, 5, 1, 4, None), (9, 10, 12, None)),
            (7, 3, (4,), 2, (3, 0, 5, 1, 4, None), (9, 10, 12, 14)),
        ])

    def test_ready_where_all_words_are_given(self):
        self.assertTrue(Slot(0, 0, ("set", 0, 1), (), 1).ready())
        slot = Slot(0, 0, ("sum", 0, 1, 2), (None, None), 1)
        self.assertFalse(slot.ready())
        slot.words[1] = 0
        self.assertFalse(slot.ready())
        slot.words[0] = 0
        self.assertTrue(slot.ready())

    def test_the_spot(self):
        slot = Slot(0, 0, ("store", 1, 2, -5), (None, None), 1)
        slot.words[1] = 3
        self.told(slot.spot(), -2)
        slot = Slot(0, 0, ("load", 1, 2, 5), (None,), 1)
        slot.words[0] = 3
        self.told(slot.spot(), 8)


class Entering(Case):
    def test_tickets_and_rows(self):
        program = [("set", 0, 1), ("go", 3), ("set", 0, 2), ("fault", 1)]
        window = window_of(program)
        for ticket, at in enumerate((0, 1, 3, 2, 0)):
            window.ahead = at
            window.now = ticket + 4
            slot = window.enter()
            self.told(slot.slip(), (ticket, at, (), None, None, (ticket + 4, None, None, None)))
            self.assertEqual(slot.row, program[at])
        self.assertEqual([slot.ticket for slot in window.slots], [0, 1, 2, 3, 4])
        self.told((window.tickets, window.thrown), (5, 0))

    def test_no_ticket_comes_twice(self):
        window = window_of([("set", 0, 1)])
        tickets = []
        for count in range(20):
            window.ahead = 0
            tickets.append(window.enter().ticket)
            if count % 3 == 2:
                window.throw(count - 1)
        self.assertEqual(tickets, list(range(20)))
        self.told((window.tickets, window.thrown), (20, 12))
        self.assertEqual([slot.ticket for slot in window.slots], [0, 3, 6, 9, 12, 15, 18, 19])

    def test_names(self):
        program = [("set", 0, 1), ("sum", 0, 0, 1), ("store", 0, 0, 0), ("move", 2, 0), ("load", 1, 2, 0),
                   ("jump", 1, 0)]
        names = [slot.names for slot in put_in(window_of(program), BOXES, 6)]
        self.told(names, [(), (0, None), (1, 1), (1,), (3,), (4,)])

    def test_names_behind_a_throw(self):
        program = [("set", 0, 1), ("set", 0, 2), ("set", 1, 3), ("sum", 2, 0, 1)]
        window = window_of(program)
        self.told(put_in(window, BOXES, 4)[3].names, (1, 2))
        window.throw(1)
        window.ahead = 3
        self.told(put_in(window, BOXES, 1)[0].names, (0, None))

    def test_each_kind_has_a_name_for_each_want(self):
        source = random.Random(1)
        for kind in KINDS:
            row = any_row(source, kind, 1, 5)
            slot = window_of([row]).enter()
            self.told((slot.names, slot.words), ((None,) * len(wanted(row)), [None] * len(wanted(row))))

    def test_only_stores_come_to_the_shelf(self):
        source = random.Random(2)
        for kind in KINDS:
            window = window_of([any_row(source, kind, 1, 5)])
            window.enter()
            self.told(window.shelf.stores(), [(0, None, None)] if kind == "store" else [])
            self.told(window.shelf.loads(), [])

    def test_the_program_is_taken_as_it_stands(self):
        program = [("set", 0, 1), ("set", 1, 2)]
        window = window_of(program)
        program[0] = ("go", 0)
        program.clear()
        self.assertEqual(window.enter().row, ("set", 0, 1))
        window.ahead = 2
        self.assertTrue(window.at_end())
        window.ahead = 1
        self.assertFalse(window.at_end())


class Giving(Case):
    def test_words(self):
        window = window_of([("sum", 0, 1, 2)])
        slot = window.enter()
        window.give(slot, 1, 0)
        self.told(slot.words, [None, 0])
        window.give(slot, 0, 9)
        self.told(slot.words, [9, 0])

    def test_a_store_in_either_order(self):
        for first in (0, 1):
            window = window_of([("store", 1, 2, -3)])
            slot = window.enter()
            window.give(slot, first, 5)
            self.told(window.shelf.stores(), [(0, None, 5) if first == 0 else (0, 2, None)])
            window.give(slot, 1 - first, 6)
            self.told(window.shelf.stores(), [(0, 3, 5) if first == 0 else (0, 2, 6)])

    def test_a_place_that_bites(self):
        program = [("set", 0, 1), ("store", 1, 0, 0), ("set", 2, 3), ("load", 3, 4, 0), ("load", 3, 4, 0),
                   ("set", 5, 1)]
        for place, thrown in ((4, 3), (5, 0), (-1, 0)):
            window = window_of(program)
            slots = put_in(window, BOXES, 6)
            for load in slots[3:5]:
                window.shelf.loaded(load.ticket, 4, None)
                window.benches.start(load.ticket, load.ticket - 3, 1)
            window.give(slots[1], 1, place)
            self.told(window.thrown, thrown)
            self.told(window.ahead, 3 if thrown else 6)
            self.told([slot.ticket for slot in window.slots], list(range(6 - thrown)))
            self.told([busy[0] for busy in window.benches.busy()], [] if thrown else [3, 4])


class Throwing(Case):
    def test_it_leaves_everything(self):
        program = [("store", 0, 1, 0), ("load", 2, 1, 0), ("store", 0, 1, 0), ("load", 2, 1, 0), ("set", 0, 1)]
        for ticket in range(7):
            window = window_of(program, table=((8, 3),) * 5)
            slots = put_in(window, BOXES, 5)
            for slot in slots:
                window.benches.start(slot.ticket, 3, 1)
            for slot in (slots[1], slots[3]):
                window.shelf.loaded(slot.ticket, 4, None)
            window.throw(ticket)
            left = list(range(min(ticket, 5)))
            self.told([slot.ticket for slot in window.slots], left)
            self.told([busy[0] for busy in window.benches.busy()], left)
            self.told([store[0] for store in window.shelf.stores()], [kept for kept in left if kept in (0, 2)])
            self.told([load[0] for load in window.shelf.loads()], [kept for kept in left if kept in (1, 3)])
            fillers = [kept for kept in left if kept in (1, 3)]
            self.told(window.names.givers((2, 0)), (max(fillers, default=None), 4 if 4 in left else None))
            self.told(window.thrown, 5 - len(left))
            self.told([window.slot_of(number) for number in range(6)], slots[:len(left)] + [None] * (6 - len(left)))

    def test_a_slip_told_earlier_stays(self):
        window = window_of([("set", 0, 1), ("move", 1, 0)])
        slots = put_in(window, BOXES, 2)
        told = [slot.slip() for slot in slots]
        kept = copy.deepcopy(told)
        window.give(slots[1], 0, 1)
        slots[1].started = 4
        window.throw(0)
        self.told(told, kept)


if __name__ == "__main__":
    unittest.main()

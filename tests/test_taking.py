import unittest

from aheadmill.errors import NoPlace
from aheadmill.plain import does
from aheadmill.taking import take_off
from tests.helper import Case, ledger_of, put_in, wanted, window_of

BOXES = (0, 1, 2, 3, 4, 5, 6, 7)
MEMORY = (20, 21, 22, 23, 24, 25, 26, 27)


# Puts all rows in and finishes them one behind the other, as the plain machine does them from this start.
def all_finished(program, wide=8, boxes=BOXES, put=1):
    window, ledger = window_of(program, wide=wide), ledger_of(boxes, MEMORY)
    window.now = put
    for number, slot in enumerate(put_in(window, boxes, len(program))):
        stand = (number, boxes, MEMORY)
        slot.words = [boxes[box] for box in wanted(program[number])]
        slot.started, slot.finished = put + 1, put + 2
        slot.deed = does(program, stand)
        if slot.row[0] == "load" and slot.deed[5] is None:
            window.shelf.loaded(slot.ticket, slot.deed[2], None)
    window.now = put + 3
    return (window, ledger)


SETS = [("set", number % 8, 30 + number) for number in range(12)]


class Order(Case):
    def test_wide_at_most(self):
        for wide in range(1, 9):
            window, ledger = all_finished(SETS, wide)
            tickets = []
            while len(tickets) < 12:
                slips = take_off(window, ledger)
                self.assertEqual(len(slips), min(wide, 12 - len(tickets)))
                tickets += [slip[0] for slip in slips]
                self.told([slot.ticket for slot in window.slots], list(range(len(tickets), 12)))
            self.assertEqual(tickets, list(range(12)))
            self.told(take_off(window, ledger), [])

    def test_up_to_the_first_that_is_not_finished(self):
        for number in range(8):
            window, ledger = all_finished(SETS[:8])
            window.slots[number].finished, window.slots[number].deed = None, None
            slips = take_off(window, ledger)
            self.told([slip[0] for slip in slips], list(range(number)))
            self.told(slips, ledger.slips)
            self.told([slot.ticket for slot in window.slots], list(range(number, 8)))
            self.told(take_off(window, ledger), [])
            self.told(ledger.broken, False)

    def test_nothing_in_the_window(self):
        window, ledger = window_of([]), ledger_of()
        self.told(take_off(window, ledger), [])
        self.told((ledger.slips, ledger.state, ledger.broken), ([], (0, (0,) * 8, (0,) * 8), False))

    def test_slips_with_the_turn_of_it(self):
        window, ledger = all_finished(SETS[:2])
        window.now = 17
        first, second = (0, 0, None, 30, 1, None), (1, 1, None, 31, 2, None)
        slips = [(0, 0, (), None, first, (1, 2, 3, 17)), (1, 1, (), None, second, (1, 2, 3, 17))]
        self.told(take_off(window, ledger), slips)
        self.told(ledger.slips, slips)

    def test_a_list_that_was_told(self):
        window, ledger = all_finished(SETS[:2], 1)
        take_off(window, ledger).clear()
        self.told(len(ledger.slips), 1)
        take_off(window, ledger).append("x")
        self.told([slip[0] for slip in ledger.slips], [0, 1])


class Stands(Case):
    def test_behind_each_deed(self):
        program = [("set", 0, 9), ("store", 4, 2, 0), ("load", 5, 3, 0), ("go", 4), ("jump", 1, 1)]
        window, ledger = all_finished(program, 1)
        stands = [(1, (9, 1, 2, 3, 4, 5, 6, 7), MEMORY),
                  (2, (9, 1, 2, 3, 4, 5, 6, 7), (20, 21, 4, 23, 24, 25, 26, 27)),
                  (3, (9, 1, 2, 3, 4, 23, 6, 7), (20, 21, 4, 23, 24, 25, 26, 27)),
                  (4, (9, 1, 2, 3, 4, 23, 6, 7), (20, 21, 4, 23, 24, 25, 26, 27)),
                  (1, (9, 1, 2, 3, 4, 23, 6, 7), (20, 21, 4, 23, 24, 25, 26, 27))]
        for stand in stands:
            take_off(window, ledger)
            self.told(ledger.state, stand)

    def test_what_is_taken_off_leaves_the_shelf(self):
        program = [("store", 4, 2, 0), ("load", 5, 3, 0), ("store", 4, 3, 0), ("load", 5, 3, 0)]
        window, ledger = all_finished(program, 1)
        for stores, loads in (([2], [1, 3]), ([2], [3]), ([], [3]), ([], [])):
            take_off(window, ledger)
            self.told([store[0] for store in window.shelf.stores()], stores)
            self.told([load[0] for load in window.shelf.loads()], loads)

    def test_names_stay(self):
        window, ledger = all_finished(SETS[:3] + [("set", 0, 1)], 3)
        take_off(window, ledger)
        self.told(window.names.givers((0, 1, 2, 3)), (3, 1, 2, None))
        window.throw(3)
        self.told(window.names.givers((0, 1, 2, 3)), (0, 1, 2, None))

    def test_who_stored_last(self):
        program = [("store", 4, 2, 0), ("store", 5, 3, 0), ("load", 7, 3, 0), ("set", 1, 1), ("store", 6, 2, 0)]
        window, ledger = all_finished(program, 1)
        for storers in ({2: 0}, {2: 0, 3: 1}, {2: 0, 3: 1}, {2: 0, 3: 1}, {2: 4, 3: 1}):
            take_off(window, ledger)
            self.told(ledger.storers, storers)
        ledger.poke(2, 99)
        self.told((ledger.storers, ledger.state[2]), ({3: 1}, (20, 21, 99, 5, 24, 25, 26, 27)))
        ledger.poke(7, 98)
        self.told((ledger.storers, ledger.state[2]), ({3: 1}, (20, 21, 99, 5, 24, 25, 26, 98)))

    def test_a_poke_that_is_refused(self):
        window, ledger = all_finished([("store", 4, 2, 0)])
        take_off(window, ledger)
        for place in (-1, 8, 99):
            self.refused(NoPlace, ledger.poke, place, 1)
        self.told((ledger.storers, ledger.state), ({2: 0}, (1, BOXES, (20, 21, 4, 23, 24, 25, 26, 27))))


FAULTS = [("fault", 4), ("share", 0, 1, 0), ("load", 0, 0, -1), ("load", 0, 0, 8), ("store", 0, 0, -1),
          ("store", 0, 1, 7)]


class Faults(Case):
    def test_the_last_one_with_all_behind_it_thrown_out(self):
        for row in FAULTS:
            for ahead in range(4):
                program = SETS[:ahead] + [row] + SETS[4:7] + [("jump", 1, 0), ("load", 0, 1, 0), ("store", 0, 1, 0)]
                window, ledger = all_finished(program)
                slips = take_off(window, ledger)
                self.told([slip[0] for slip in slips], list(range(ahead + 1)))
                self.told(slips[-1][4][:5], (ahead, None, None, None, None))
                self.told((ledger.broken, window.slots, window.thrown), (True, [], 6))
                self.told((window.shelf.stores(), window.shelf.loads(), window.benches.busy()), ([], [], []))
                boxes = tuple(SETS[box][2] if box < ahead else BOXES[box] for box in range(8))
                self.told(ledger.state, (ahead, boxes, MEMORY))
                self.told((ledger.guesser.written, ledger.nerve.written), ([], []))
                self.told(take_off(window, ledger), [])

    def test_wide_ends_ahead_of_a_fault(self):
        window, ledger = all_finished(SETS[:2] + [("fault", 4)], 2)
        take_off(window, ledger)
        self.told((ledger.broken, len(window.slots), window.thrown), (False, 1, 0))
        self.told(len(take_off(window, ledger)), 1)
        self.told((ledger.broken, len(window.slots), window.thrown), (True, 0, 0))

    def test_a_fault_that_is_not_finished(self):
        window, ledger = all_finished([("fault", 4)])
        window.slots[0].finished, window.slots[0].deed = None, None
        self.told(take_off(window, ledger), [])
        self.told(ledger.broken, False)


class Lessons(Case):
    def test_jumps(self):
        program = [("jump", 0, 3), ("jump", 1, 2), ("jump", 0, 3), ("jump", 7, 0), ("set", 0, 1), ("go", 2)]
        window, ledger = all_finished(program)
        take_off(window, ledger)
        self.told(ledger.guesser.written, [(0, False), (1, True), (2, False), (3, True)])
        self.told(ledger.nerve.written, [])

    def test_a_target_that_is_the_next_row(self):
        for box in (0, 1):
            window, ledger = all_finished([("jump", box, 1)])
            take_off(window, ledger)
            self.told(ledger.guesser.written, [(0, box == 1)])

    def test_one_turn_behind_the_other(self):
        window, ledger = all_finished([("jump", 1, 1), ("load", 0, 1, 0), ("jump", 0, 0)], 1)
        written = []
        for guessed, dared in (([(0, True)], []), ([], [(1, True)]), ([(2, False)], [])):
            take_off(window, ledger)
            written += guessed
            self.told(ledger.guesser.written, written)
        self.told(ledger.nerve.written, [(1, True)])

    def test_only_jumps_and_loads_teach(self):
        for row in (("set", 0, 1), ("store", 1, 1, 0), ("go", 1), ("move", 1, 2), ("share", 1, 1, 1)):
            window, ledger = all_finished([row])
            take_off(window, ledger)
            self.told((ledger.guesser.written, ledger.nerve.written), ([], []))

    def test_loads_whose_giver_was_taken_off_by_then(self):
        # A store is taken off in turn 4; the load was put in in this turn, or earlier or later.
        for put, came in ((1, False), (3, False), (4, True), (5, True)):
            window, ledger = all_finished([("store", 4, 2, 0), ("load", 5, 2, 0)], 1)
            window.slots[1].source, window.slots[1].put = 0, put
            take_off(window, ledger)
            window.now = 9
            take_off(window, ledger)
            self.told(ledger.nerve.written, [(1, came)])

    def test_a_giver_taken_off_in_the_same_turn(self):
        window, ledger = all_finished([("store", 4, 2, 0), ("load", 5, 2, 0), ("load", 6, 2, 0), ("load", 6, 3, 0)])
        window.slots[1].source = window.slots[2].source = 0
        take_off(window, ledger)
        self.told(ledger.nerve.written, [(1, False), (2, False), (3, True)])

    def test_loads_without_a_giver(self):
        window, ledger = all_finished([("store", 4, 2, 0), ("load", 5, 3, 0)])
        take_off(window, ledger)
        self.told(ledger.nerve.written, [(1, True)])


if __name__ == "__main__":
    unittest.main()

import unittest

from aheadmill.working import finish_all, start_all
from tests.helper import Case, ledger_of, put_in, window_of

BOXES = (0, 1, 2, 3, 4, 5, 6, 7)
MEMORY = (20, 21, 22, 23, 24, 25, 26, 27)
MANY = ((8, 1),) * 5


# All rows put in in turn 1.
def works(program, table=((1, 3),) * 5, dares=True):
    window, ledger = window_of(program, table=table), ledger_of(BOXES, MEMORY)
    for slot in put_in(window, BOXES, len(program)):
        slot.dares = dares
    return (window, ledger)


# Goes on to this turn, finishing and starting in each.
def until(window, ledger, turn):
    while window.now < turn:
        window.now += 1
        finish_all(window, ledger)
        start_all(window, ledger)


def started(window):
    return [slot.started for slot in window.slots]


def finished(window):
    return [slot.finished for slot in window.slots]


GROUPED = [("set", 0, 5), ("times", 0, 1, 2), ("share", 0, 1, 2), ("load", 0, 1, 0), ("jump", 1, 0)]


class Finishing(Case):
    def test_as_many_turns_behind_the_start_as_the_benches_take(self):
        for group, row in enumerate(GROUPED):
            for long in (1, 2, 5, 16):
                table = ((1, 3),) * group + ((1, long),) + ((1, 3),) * (4 - group)
                window, ledger = works([row], table)
                for turn in range(2, long + 4):
                    until(window, ledger, turn)
                    times = (1, 2, None if turn < 2 + long else 2 + long, None)
                    self.told(window.slots[0].slip()[5], times)
                    self.assertEqual(window.slots[0].deed is None, turn < 2 + long)
                    self.assertEqual(window.benches.free(group), 0 if turn < 2 + long else 1)

    def test_deeds(self):
        program = [("set", 0, 9), ("times", 1, 2, 3), ("rest", 2, 7, 4), ("load", 3, 5, 1), ("store", 6, 4, -1),
                   ("jump", 7, 0), ("go", 2), ("fault", 8), ("share", 5, 6, 0)]
        deeds = [(0, 0, None, 9, 1, None), (1, 1, None, 6, 2, None), (2, 2, None, 3, 3, None), (3, 3, 6, 26, 4, None),
                 (4, None, 3, 6, 5, None), (5, None, None, None, 0, None), (6, None, None, None, 2, None),
                 (7, None, None, None, None, ("told", 8)), (8, None, None, None, None, ("nought", 6))]
        for row, deed in zip(program, deeds):
            window, ledger = works([("go", 0)] * deed[0] + [row], MANY)
            slot = window.slots[-1]
            slot.words = [BOXES[box] for box in row[2:4]] if row[0] in ("times", "rest", "share") else slot.words
            until(window, ledger, 3)
            self.told(window.slots[-1].deed, deed)

    def test_words_are_given_to_those_that_name_it(self):
        program = [("set", 0, 9), ("sum", 1, 0, 0), ("sum", 2, 0, 3), ("sum", 4, 3, 0), ("move", 5, 3), ("move", 6, 1)]
        window, ledger = works(program, MANY)
        self.told([slot.words for slot in window.slots], [[], [None, None], [None, 3], [3, None], [3], [None]])
        until(window, ledger, 2)
        self.told([slot.words for slot in window.slots], [[], [None, None], [None, 3], [3, None], [3], [None]])
        until(window, ledger, 3)
        self.told([slot.words for slot in window.slots], [[], [9, 9], [9, 3], [3, 9], [3], [None]])
        self.told(started(window), [2, 3, 3, 3, 2, None])
        until(window, ledger, 4)
        self.told(window.slots[5].words, [18])

    def test_a_younger_row_that_fills_the_box_is_named(self):
        window, ledger = works([("set", 0, 9), ("times", 0, 1, 1), ("move", 2, 0)], ((8, 1), (8, 4)) + MANY[2:])
        until(window, ledger, 5)
        self.told((window.slots[2].names, window.slots[2].words), ((1,), [None]))
        until(window, ledger, 6)
        self.told(window.slots[2].words, [1])

    def test_a_fault_gives_no_word(self):
        for row in (("share", 1, 2, 0), ("rest", 1, 2, 0), ("load", 1, 0, -1), ("load", 1, 7, 1)):
            window, ledger = works([row, ("move", 2, 1), ("store", 1, 1, 0), ("jump", 1, 0)], MANY)
            until(window, ledger, 20)
            self.told(finished(window), [3, None, None, None])
            self.told(started(window), [2, None, None, None])
            self.told(window.shelf.stores(), [(2, None, None)])


class Stores(Case):
    def test_in_either_order_and_before_the_start(self):
        quick, slow = ("set", 1, 5), ("times", 2, 3, 3)
        program = [quick, slow]
        for row, first, then in ((("store", 1, 2, -4), (None, 5), (5, 5)), (("store", 2, 1, -4), (1, None), (1, 9))):
            window, ledger = works(program + [row], ((1, 1), (1, 3), (1, 1), (1, 1), (1, 1)))
            self.told(window.shelf.stores(), [(2, None, None)])
            until(window, ledger, 3)
            self.told(window.shelf.stores(), [(2,) + first])
            until(window, ledger, 4)
            self.told(window.shelf.stores(), [(2,) + first])
            until(window, ledger, 5)
            self.told((window.shelf.stores(), started(window)), ([(2,) + then], [2, 2, 5]))

    def test_both_by_one_word(self):
        window, ledger = works([("set", 1, 5), ("store", 1, 1, 0)], MANY)
        until(window, ledger, 3)
        self.told(window.shelf.stores(), [(1, 5, 5)])

    def test_known_while_no_bench_is_free(self):
        window, ledger = works([("load", 0, 7, 0), ("set", 1, 5), ("store", 1, 1, 0)], MANY[:3] + ((1, 16), (8, 1)))
        until(window, ledger, 5)
        self.told((window.shelf.stores(), started(window)), ([(2, 5, 5)], [2, 2, None]))


# The slow row gives the place 3 to the store behind it in turn 5; a load at place 3 that dares starts in turn 2.
SLOW = ((8, 1), (8, 1), (8, 3), (8, 1), (8, 1))
LATE = [("rest", 1, 7, 4), ("store", 5, 1, 0)]
LOAD = ("load", 0, 3, 0)


class Bites(Case):
    def after_the_place(self, program, table=SLOW):
        window, ledger = works(program, table)
        until(window, ledger, 4)
        self.told((window.thrown, window.ahead), (0, len(program)))
        until(window, ledger, 5)
        return window

    def thrown_from(self, program, number):
        window = self.after_the_place(program)
        self.told([slot.ticket for slot in window.slots], list(range(number)))
        self.told((window.thrown, window.ahead), (len(program) - number, number))
        self.told(window.names.givers((0,))[0], max([at for at in range(number) if program[at][1] == 0], default=None))
        self.assertEqual([load for load in window.shelf.loads() + window.shelf.stores() if load[0] >= number], [])

    def not_thrown(self, program):
        window = self.after_the_place(program)
        self.told((len(window.slots), window.thrown, window.ahead), (len(program), 0, len(program)))

    def test_a_load_that_took_from_the_memory(self):
        self.thrown_from(LATE + [LOAD], 2)
        self.thrown_from(LATE + [LOAD, ("set", 0, 1), ("go", 5)], 2)
        self.thrown_from(LATE + [("set", 0, 1), LOAD, ("set", 2, 2)], 3)

    def test_the_oldest_of_several(self):
        self.thrown_from(LATE + [("set", 2, 1), LOAD, LOAD, LOAD], 3)
        self.thrown_from(LATE + [("load", 0, 4, 0), LOAD, ("load", 0, 4, 0)], 3)

    def test_a_load_that_took_from_an_older_store(self):
        self.thrown_from([("store", 6, 3, 0)] + LATE + [LOAD], 3)

    def test_a_load_that_took_from_a_younger_store(self):
        self.not_thrown(LATE + [("store", 6, 3, 0), LOAD])

    def test_one_that_took_from_a_younger_store_and_one_that_did_not(self):
        self.thrown_from(LATE + [LOAD, ("store", 6, 3, 0), LOAD], 2)
        self.not_thrown(LATE + [("store", 6, 3, 0), LOAD, ("load", 0, 2, 0)])

    def test_another_place(self):
        for step in (-1, 1):
            self.not_thrown(LATE + [("load", 0, 3, step)])

    def test_a_load_ahead_of_the_store(self):
        self.not_thrown([LOAD] + LATE)
        self.not_thrown(LATE[:1] + [LOAD] + LATE[1:])

    def test_a_load_that_has_not_started(self):
        window, ledger = works(LATE + [LOAD], SLOW, dares=False)
        until(window, ledger, 4)
        self.told(started(window), [2, None, None])
        until(window, ledger, 5)
        # The word of the store is known too, so the load starts in this very turn, and takes from it.
        self.told((started(window), window.slots[2].source, window.slots[2].held), ([2, 5, 5], 1, 5))

    def test_loads_and_stores_out_of_the_memory(self):
        far = ("load", 0, 3, 900)
        self.not_thrown([("rest", 1, 7, 4), ("store", 5, 1, 900), far])
        self.not_thrown([("rest", 1, 7, 4), ("store", 5, 1, -4), ("load", 0, 3, -4)])
        self.not_thrown([("rest", 1, 7, 4), ("store", 5, 1, 5), ("load", 0, 3, 5)])
        self.thrown_from([("rest", 1, 7, 4), ("store", 5, 1, 4), ("load", 0, 3, 4)], 2)

    def test_a_load_that_is_finished(self):
        window = self.after_the_place(LATE + [("load", 0, 3, 0), ("move", 2, 0)])
        self.told((finished(window), window.thrown), ([5, None], 2))

    def test_a_load_that_is_due_in_this_turn_is_not_finished(self):
        table = ((8, 1), (8, 1), (8, 3), (8, 3), (8, 1))
        window, ledger = works(LATE + [LOAD, ("move", 2, 0), ("store", 2, 0, 0)], table)
        load = window.slots[2]
        until(window, ledger, 5)
        self.told((load.finished, load.deed, window.thrown), (None, None, 3))
        self.told(window.benches.busy(), [(1, 3, 8)])

    def test_two_stores_given_by_one(self):
        # The second store bites an older load than the first, or is itself thrown out by the first.
        first, second = ("store", 5, 1, 0), ("store", 5, 1, 1)
        self.thrown_from(LATE[:1] + [first, second, ("load", 0, 3, 1), LOAD], 3)
        self.thrown_from(LATE[:1] + [first, second, LOAD, ("load", 0, 3, 1)], 3)
        self.thrown_from(LATE[:1] + [first, LOAD, second, ("load", 0, 3, 1)], 2)
        self.thrown_from(LATE[:1] + [first, ("load", 0, 3, 1), second, ("load", 0, 3, 1), ("set", 2, 1)], 4)

    def test_a_place_that_is_known_before_its_word(self):
        program = [("rest", 1, 7, 4), ("times", 2, 3, 3), ("store", 2, 1, 0), LOAD, ("set", 2, 1)]
        window, ledger = works(program, ((8, 1), (8, 9), (8, 3), (8, 1), (8, 1)))
        until(window, ledger, 5)
        self.told((window.thrown, window.ahead, window.shelf.stores()), (2, 3, [(2, 3, None)]))


class Jumps(Case):
    def finished_jump(self, row, chosen, behind):
        window, ledger = window_of([row] + [("set", 0, 1)] * 4, table=MANY), ledger_of(BOXES, MEMORY)
        put_in(window, BOXES, 1)
        window.slots[0].chosen = window.ahead = chosen
        put_in(window, BOXES, behind)
        until(window, ledger, 3)
        return window

    def test_the_way_that_was_chosen(self):
        for row, chosen in ((("jump", 0, 3), 1), (("jump", 1, 3), 3), (("jump", 0, 1), 1), (("jump", 1, 1), 1),
                            (("go", 2), 2)):
            for behind in range(2):
                window = self.finished_jump(row, chosen, behind)
                ahead = chosen if behind == 0 else window.slots[1].chosen
                self.told((len(window.slots), window.thrown, window.ahead), (1 + behind, 0, ahead))

    def test_another_way(self):
        for row, chosen, after in ((("jump", 0, 3), 3, 1), (("jump", 1, 3), 1, 3), (("jump", 0, 0), 0, 1),
                                   (("jump", 7, 5), 1, 5), (("jump", 0, 5), 5, 1)):
            for behind in range(3 if chosen < 3 else 1):
                window = self.finished_jump(row, chosen, behind)
                self.told((len(window.slots), window.thrown, window.ahead), (1, behind, after))
                self.told(window.slots[0].deed, (0, None, None, None, after, None))
                self.told(window.benches.busy(), [])

    def test_what_is_behind_it_is_not_finished(self):
        window, ledger = works([("jump", 1, 0), ("set", 0, 9), ("jump", 1, 1), ("share", 0, 1, 0)], MANY)
        behind = window.slots[1:]
        until(window, ledger, 3)
        self.told([slot.finished for slot in behind], [None] * 3)
        self.told((window.thrown, window.ahead), (3, 0))

    def test_an_older_one_is_left(self):
        window, ledger = works([("set", 0, 9), ("jump", 1, 0), ("set", 0, 8), ("set", 0, 7)], MANY)
        until(window, ledger, 3)
        self.told([slot.ticket for slot in window.slots], [0, 1])
        self.told(window.names.giver(0), 0)


class Starting(Case):
    def test_not_in_the_turn_in_which_it_was_put_in(self):
        window, ledger = works([("set", 0, 1), ("go", 0)])
        start_all(window, ledger)
        self.told(started(window), [None, None])
        window.now = 2
        start_all(window, ledger)
        self.told(started(window), [2, 2])
        window.now = 3
        start_all(window, ledger)
        self.told(started(window), [2, 2])

    def test_oldest_first_as_benches_are_free(self):
        for many in range(1, 9):
            window, ledger = works([("set", number % 8, 1) for number in range(10)], ((many, 3),) * 5)
            until(window, ledger, 2)
            self.told(started(window), [2] * many + [None] * (10 - many))
            until(window, ledger, 4)
            self.told(started(window), [2] * many + [None] * (10 - many))
            # The benches that are left in this turn's second part are free in its third.
            until(window, ledger, 5)
            self.told(started(window), [2] * many + [5] * min(many, 10 - many) + [None] * (10 - 2 * many))

    def test_each_group_has_its_own_benches(self):
        window, ledger = works(GROUPED[:4] + [("go", 5)] + GROUPED[:4] + [("fault", 1)])
        for slot in window.slots:
            slot.words = [1] * len(slot.words)
        until(window, ledger, 4)
        self.told(started(window), [2] * 5 + [None] * 5)

    def test_a_younger_one_may_pass_one_that_is_not_ready(self):
        window, ledger = works([("times", 1, 2, 2), ("move", 3, 1), ("set", 4, 1)])
        until(window, ledger, 5)
        self.told(started(window), [2, 5, 2])

    def test_a_bench_of_one_that_was_thrown_out(self):
        program = [("jump", 1, 0), ("times", 2, 1, 1), ("times", 3, 1, 1)]
        window, ledger = works(program, MANY[:1] + ((1, 16),) + MANY[2:])
        until(window, ledger, 2)
        self.told(started(window), [2, 2, None])
        until(window, ledger, 3)
        self.told((len(window.slots), window.benches.free(1)), (1, 1))


class Loads(Case):
    def load(self, program, dares, turn=2, storers=None):
        window, ledger = works(program, ((8, 1), (8, 1), (8, 9), (8, 1), (8, 1)), dares)
        ledger.storers.update(storers or {})
        until(window, ledger, turn)
        slot = window.slots[-1]
        return (slot.started, slot.source, slot.held)

    def test_from_the_memory(self):
        for dares in (False, True):
            self.told(self.load([LOAD], dares), (2, None, 23))
            self.told(self.load([LOAD], dares, storers={3: -5, 4: -3}), (2, -5, 23))
            self.told(self.load([LOAD], dares, storers={4: -3}), (2, None, 23))
            self.told(self.load([("store", 6, 4, 0), LOAD], dares), (2, None, 23))

    def test_from_a_store(self):
        for dares in (False, True):
            self.told(self.load([("store", 6, 3, 0), LOAD], dares), (2, 0, 6))
            self.told(self.load([("store", 6, 3, 0), LOAD], dares, storers={3: -5}), (2, 0, 6))
            self.told(self.load([("store", 6, 3, 0), ("store", 7, 3, 0), ("store", 7, 4, 0), LOAD], dares), (2, 1, 7))

    def test_a_store_whose_word_is_not_known(self):
        for dares in (False, True):
            self.told(self.load([("rest", 1, 7, 4), ("store", 1, 3, 0), LOAD], dares, 10), (None, None, None))
            self.told(self.load([("rest", 1, 7, 4), ("store", 1, 3, 0), LOAD], dares, 11), (11, 1, 3))

    def test_a_store_whose_place_is_not_known(self):
        program = [("store", 6, 3, 0), ("rest", 1, 7, 4), ("store", 5, 1, 9), LOAD]
        self.told(self.load(program, True), (2, 0, 6))
        self.told(self.load(program[1:], True), (2, None, 23))
        self.told(self.load(program, False, 10), (None, None, None))
        self.told(self.load(program, False, 11), (11, 0, 6))

    def test_younger_stores_are_not_looked_at(self):
        window, ledger = works([LOAD, ("store", 6, 3, 0)], MANY, dares=False)
        until(window, ledger, 2)
        self.told((window.slots[0].source, window.slots[0].held), (None, 23))

    def test_one_that_waits_leaves_the_bench_to_a_younger_one(self):
        program = [("rest", 1, 7, 4), ("store", 1, 3, 0), LOAD, ("load", 2, 4, 0)]
        window, ledger = works(program, ((8, 1), (8, 1), (8, 9), (1, 1), (8, 1)), False)
        until(window, ledger, 2)
        self.told(started(window), [2, None, None, 2])

    def test_one_that_has_no_bench_takes_nothing(self):
        window, ledger = works([("load", 2, 4, 0), LOAD], MANY[:3] + ((1, 4), (8, 1)))
        until(window, ledger, 2)
        self.told((window.slots[1].started, window.slots[1].held, window.shelf.loads()), (None, None, [(0, 4, None)]))

    def test_out_of_the_memory(self):
        for row in (("load", 0, 3, -4), ("load", 0, 3, 5), ("load", 0, 3, 999), ("load", 0, 3, -999)):
            for ahead in ([], [("rest", 1, 7, 4), ("store", 5, 1, 0)], [("store", 6, 3, row[3])]):
                for dares in (False, True):
                    window, ledger = works(ahead + [row], MANY, dares)
                    until(window, ledger, 3)
                    fault = (len(ahead), None, None, None, None, ("place", 3 + row[3]))
                    self.told(window.slots[-1].slip()[3:], (None, fault, (1, 2, 3, None)))
                    self.told(window.shelf.loads(), [])

    def test_the_word_stays_as_it_was_taken(self):
        window, ledger = works([LOAD], ((1, 5),) * 5)
        until(window, ledger, 3)
        ledger.state = (0, BOXES, (0,) * 8)
        until(window, ledger, 7)
        self.told(window.slots[0].deed, (0, 0, 3, 23, 1, None))


if __name__ == "__main__":
    unittest.main()

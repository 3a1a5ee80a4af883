import copy
import inspect
import random
import unittest

from aheadmill.errors import Halted, NoPlace
from aheadmill.guessers import Always, Counts, Guesser, Last
from aheadmill.mill import Mill
from aheadmill.plain import run
from tests.helper import GREATEST, Case, Writing, any_table, calm_program, calm_start, two_guessers, wild_program
from tests.helper import wild_start

BOXES = (0, 1, 2, 3, 4, 5, 6, 7)
MEMORY = (20, 21, 22, 23, 24, 25, 26, 27)
START = (0, BOXES, MEMORY)
QUICK = ((8, 1),) * 5
TABLE = ((2, 1), (1, 3), (1, 6), (1, 2), (1, 1))


def all_told(mill):
    return (mill.taken(), mill.inside(), mill.stand(), mill.halted(), mill.counts())


# What each turn takes off, by the turn's number, up to the halt.
def by_turns(mill):
    told = {}
    turns = 0
    while mill.halted() is None:
        turns += 1
        slips = mill.turn()
        if slips:
            told[turns] = slips
    return told


class Made(Case):
    def test_the_names_of_the_arguments(self):
        told = [(name, part.default) for name, part in inspect.signature(Mill).parameters.items()]
        empty = inspect.Parameter.empty
        self.assertEqual(told, [("program", empty), ("stand", empty), ("size", 8), ("wide", 2), ("table", None),
                                ("guesser", None), ("nerve", None)])

    def test_left_out_told_by_hand_and_none(self):
        source = random.Random(301)
        for count in range(60):
            program = calm_program(source, 40, 8)
            start = calm_start(source, 40, 8)
            mills = [Mill(program, start), Mill(program, start, 8, 2, TABLE, Guesser(), Guesser()),
                     Mill(program, start, 8, 2, None, None, None), Mill(program, start, nerve=None, wide=2),
                     Mill(program=program, stand=start, size=8, wide=2, table=TABLE, guesser=None, nerve=Guesser())]
            for turns in (1, 4, 9, 30, 100):
                for mill in mills:
                    mill.turns(turns)
                    self.told(all_told(mill), all_told(mills[0]))

    def test_each_argument_tells(self):
        program = [("rest", 1, 7, 4), ("store", 5, 1, 0), ("load", 0, 3, 0), ("jump", 6, 0), ("set", 2, 2)]
        plain = Mill(program, START)
        plain.turns(30)
        for given in ({"size": 2}, {"wide": 1}, {"table": QUICK}, {"guesser": Always()}, {"nerve": Always()}):
            mill = Mill(program, START, **given)
            mill.turns(30)
            self.assertNotEqual(mill.taken(), plain.taken(), given)

    def test_the_beginning(self):
        mill = Mill([("set", 0, 1)], START)
        self.told(all_told(mill), ([], [], START, None, (0, 0, 0)))

    def test_a_start_at_any_row(self):
        program = [("set", 0, number) for number in range(5)]
        for at in range(5):
            mill = Mill(program, (at, BOXES, MEMORY))
            mill.turns(50)
            self.told([slip[1] for slip in mill.taken()], list(range(at, 5)))
            self.told(mill.stand(), (5, (4,) + BOXES[1:], MEMORY))

    def test_one_object_for_both(self):
        both = Writing(Guesser())
        program = [("jump", 0, 0), ("load", 0, 1, 0), ("jump", 1, 3), ("store", 5, 1, 0), ("load", 0, 1, 0)]
        Mill(program, START, guesser=both, nerve=both).turns(100)
        self.told(both.written, [(0, False), (1, True), (2, True), (4, False)])
        # Two lessons for one count: the jump's makes the load dare, and the load's the next jump.
        both = Counts(1, 1)
        Mill([("jump", 1, 1), ("load", 0, 1, 0)], START, 1, 1, QUICK, both, both).turns(200)
        self.told((both.lessons(), both.guess(0)), (2, True))


class Traces(Case):
    def test_a_window_of_one_slip(self):
        mill = Mill([("set", 0, 5), ("set", 1, 6)], START, 1, 1)
        first, second = (0, 0, None, 5, 1, None), (1, 1, None, 6, 2, None)
        self.told(mill.turn(), [])
        self.told(mill.inside(), [(0, 0, (), None, None, (1, None, None, None))])
        self.told(mill.turn(), [])
        self.told(mill.inside(), [(0, 0, (), None, None, (1, 2, None, None))])
        self.told(mill.turn(), [])
        self.told(mill.inside(), [(0, 0, (), None, first, (1, 2, 3, None))])
        self.told((mill.stand(), mill.taken(), mill.counts()), (START, [], (1, 0, 0)))
        self.told(mill.turn(), [(0, 0, (), None, first, (1, 2, 3, 4))])
        self.told(mill.inside(), [(1, 1, (), None, None, (4, None, None, None))])
        self.told((mill.stand(), mill.counts()), ((1, (5,) + BOXES[1:], MEMORY), (2, 1, 0)))
        self.told((mill.turn(), mill.turn(), mill.halted()), ([], [], None))
        self.told(mill.inside(), [(1, 1, (), None, second, (4, 5, 6, None))])
        self.told(mill.turn(), [(1, 1, (), None, second, (4, 5, 6, 7))])
        self.told((mill.inside(), mill.halted(), mill.counts()), ([], "end", (2, 2, 0)))
        self.told(mill.taken(), [(0, 0, (), None, first, (1, 2, 3, 4)), (1, 1, (), None, second, (4, 5, 6, 7))])

    def test_each_kind_on_its_benches(self):
        # In a window of one slip: put in in turn 1, started in 2, finished as many turns later as its group takes.
        kinds = {("set", 0, 1): 1, ("move", 0, 1): 1, ("sum", 0, 1, 2): 1, ("less", 0, 1, 2): 1, ("times", 0, 1, 2): 3,
                 ("share", 0, 1, 2): 6, ("rest", 0, 1, 2): 6, ("both", 0, 1, 2): 1, ("some", 0, 1, 2): 1,
                 ("odd", 0, 1, 2): 1, ("up", 0, 1, 2): 1, ("down", 0, 1, 2): 1, ("below", 0, 1, 2): 1,
                 ("same", 0, 1, 2): 1, ("load", 0, 1, 2): 2, ("store", 0, 1, 2): 2, ("jump", 0, 1): 1, ("go", 1): 1,
                 ("fault", 7): 1}
        self.assertEqual(len(kinds), 19)
        for row, long in kinds.items():
            mill = Mill([row], START)
            self.told(list(by_turns(mill)), [3 + long])
            self.told(mill.taken()[0][5], (1, 2, 2 + long, 3 + long))

    def test_benches_of_the_table_that_is_left_out(self):
        rows = {("set", 0, 1): (2, 2, 3, 3, 4), ("times", 0, 1, 2): (2, 5, 8, 11, 14),
                ("rest", 0, 1, 2): (2, 8, 14, 20, 26), ("load", 0, 1, 0): (2, 4, 6, 8, 10),
                ("jump", 0, 0): (2, 3, 4, 5, 6)}
        for row, starts in rows.items():
            mill = Mill([row] * 5, START)
            mill.turns(100)
            self.told(tuple(slip[5][1] for slip in mill.taken()), starts)

    def test_the_edges_of_the_memory(self):
        for room in (1, 2, 7, 9, 63, 64):
            start = (0, BOXES, tuple(range(100, 100 + room)))
            for place in (-1, 0, room - 1, room):
                program = [("load", 2, 0, place), ("store", 2, 0, place), ("load", 3, 0, place)]
                mill = Mill(program, start)
                mill.turns(50)
                self.told(mill.halted(), "end" if 0 <= place < room else "fault")
                self.told([slip[4] for slip in mill.taken()], run(program, start, 5)[0])
                self.told([slip[3] for slip in mill.taken()], [None, None, 1] if 0 <= place < room else [None])

    def test_a_load_behind_a_store_that_waits_for_a_product(self):
        program = [("set", 0, 3), ("set", 1, 4), ("times", 2, 0, 1), ("store", 2, 3, 0), ("load", 4, 3, 0),
                   ("move", 5, 4)]
        nerve = Writing(Guesser())
        mill = Mill(program, (0, (0,) * 8, (8,)), nerve=nerve)
        self.told(by_turns(mill), {
            4: [(0, 0, (), None, (0, 0, None, 3, 1, None), (1, 2, 3, 4)),
                (1, 1, (), None, (1, 1, None, 4, 2, None), (1, 2, 3, 4))],
            7: [(2, 2, (0, 1), None, (2, 2, None, 12, 3, None), (2, 3, 6, 7))],
            9: [(3, 3, (2, None), None, (3, None, 0, 12, 4, None), (2, 6, 8, 9))],
            11: [(4, 4, (None,), 3, (4, 4, 0, 12, 5, None), (3, 8, 10, 11))],
            12: [(5, 5, (4,), None, (5, 5, None, 12, 6, None), (3, 10, 11, 12))]})
        self.told((mill.counts(), mill.stand()), ((6, 6, 0), (6, (3, 4, 12, 0, 12, 12, 0, 0), (12,))))
        self.told(nerve.written, [(4, False)])

    def test_a_jump_that_went_another_way(self):
        program = [("set", 0, 1), ("jump", 0, 3), ("set", 1, 9), ("set", 2, 5)]
        guesser = Writing(Guesser())
        mill = Mill(program, START, guesser=guesser)
        self.told(mill.turns(3), 3)
        self.told([slip[0] for slip in mill.inside()], [0, 1, 2, 3])
        self.told(len(mill.turn()), 1)
        self.told(mill.inside(), [(1, 1, (0,), None, (1, None, None, None, 3, None), (1, 3, 4, None)),
                                  (4, 3, (), None, None, (4, None, None, None))])
        self.told(by_turns(mill), {
            1: [(1, 1, (0,), None, (1, None, None, None, 3, None), (1, 3, 4, 5))],
            3: [(4, 3, (), None, (3, 2, None, 5, 4, None), (4, 5, 6, 7))]})
        self.told((mill.counts(), guesser.written), ((5, 3, 2), [(1, True)]))
        self.told(mill.stand(), (4, (1, 1, 5, 3, 4, 5, 6, 7), MEMORY))

    def test_a_jump_whose_way_was_guessed(self):
        program = [("set", 0, 1), ("jump", 0, 3), ("set", 1, 9), ("set", 2, 5)]
        mill = Mill(program, START, guesser=Always())
        mill.turns(20)
        self.told([slip[0:2] + slip[5] for slip in mill.taken()],
                  [(0, 0, 1, 2, 3, 4), (1, 1, 1, 3, 4, 5), (2, 3, 2, 3, 4, 5)])
        self.told(mill.counts(), (3, 3, 0))

    def test_a_load_that_dares_too_much(self):
        program = [("rest", 1, 7, 4), ("store", 5, 1, 0), ("load", 0, 3, 0)]
        nerve = Writing(Always())
        mill = Mill(program, START, nerve=nerve)
        mill.turns(5)
        self.told(mill.inside()[2], (2, 2, (None,), None, (2, 0, 3, 23, 3, None), (2, 3, 5, None)))
        mill.turns(3)
        self.told(mill.inside(), [(0, 0, (None, None), None, (0, 1, None, 3, 1, None), (1, 2, 8, None)),
                                  (1, 1, (None, 0), None, None, (1, 8, None, None)),
                                  (3, 2, (None,), None, None, (8, None, None, None))])
        self.told(mill.counts(), (4, 0, 1))
        by_turns(mill)
        self.told([slip[0] for slip in mill.taken()], [0, 1, 3])
        self.told(mill.taken()[2], (3, 2, (None,), 1, (2, 0, 3, 5, 3, None), (8, 10, 12, 13)))
        self.told((mill.counts(), nerve.written), ((4, 3, 1), [(2, False)]))

    def test_a_load_that_dares_well(self):
        program = [("rest", 1, 7, 4), ("store", 5, 1, 0), ("load", 0, 2, 0), ("set", 6, 6)]
        bold, nerve = Mill(program, START, nerve=Writing(Always())), Writing(Guesser())
        bold.turns(30)
        self.told(bold.taken()[2], (2, 2, (None,), None, (2, 0, 2, 22, 3, None), (2, 3, 5, 11)))
        shy = Mill(program, START, nerve=nerve)
        shy.turns(30)
        # The store takes the one bench in turn 8, so the load starts when it is finished.
        self.told(shy.taken()[2], (2, 2, (None,), None, (2, 0, 2, 22, 3, None), (2, 10, 12, 13)))
        self.told(nerve.written, [(2, True)])

    def test_a_fault_with_rows_behind_it(self):
        program = [("set", 0, 9), ("share", 1, 0, 7), ("move", 2, 1), ("store", 1, 1, 0), ("set", 3, 3), ("jump", 3, 0)]
        mill = Mill(program, (0, (0,) * 8, MEMORY), 8, 4, QUICK)
        self.told(mill.turns(4), 4)
        self.told([slip[0:2] + slip[5] for slip in mill.inside()],
                  [(1, 1, 1, 3, 4, None), (2, 2, 1, None, None, None), (3, 3, 1, None, None, None),
                   (4, 4, 2, 3, 4, None), (5, 5, 2, 4, None, None)])
        fault = (1, 1, (0, None), None, (1, None, None, None, None, ("nought", 9)), (1, 3, 4, 5))
        self.told(mill.turn(), [fault])
        self.told((mill.halted(), mill.inside(), mill.counts()), ("fault", [], (6, 2, 4)))
        self.told(mill.stand(), (1, (9,) + (0,) * 7, MEMORY))
        self.told(mill.taken()[-1], fault)

    def test_a_fault_that_is_never_reached(self):
        program = [("times", 0, 1, 1), ("jump", 0, 3), ("fault", 3), ("set", 1, 1)]
        mill = Mill(program, START)
        mill.turns(50)
        self.told((mill.halted(), [slip[1] for slip in mill.taken()]), ("end", [0, 1, 3]))
        self.told(mill.counts()[2], 2)


class Givers(Case):
    def test_the_last_row_taken_off_that_stored_there(self):
        program = [("store", 5, 3, 0), ("store", 6, 2, 0), ("load", 0, 3, 0), ("load", 1, 4, 0), ("store", 7, 3, 0),
                   ("load", 0, 3, 0)]
        for size, written in ((1, [(2, True), (3, True), (5, True)]), (8, [(2, False), (3, True), (5, False)])):
            nerve = Writing(Guesser())
            mill = Mill(program, START, size, 1, nerve=nerve)
            mill.turns(100)
            self.told([slip[3] for slip in mill.taken()], [None, None, 0, None, None, 4])
            self.told(nerve.written, written)

    def test_a_word_poked_there_since(self):
        program = [("store", 5, 3, 0), ("load", 0, 3, 0), ("store", 6, 3, 0), ("load", 0, 3, 0)]
        for place, giver, word in ((3, None, 99), (2, 0, 5), (7, 0, 5)):
            mill = Mill(program, START, 1, 1)
            while mill.counts()[1] < 1:
                mill.turn()
            self.told(mill.poke(place, 99), 1)
            mill.turns(100)
            self.told([slip[3] for slip in mill.taken()], [None, giver, None, mill.taken()[2][0]])
            self.told([slip[4][3] for slip in mill.taken()], [5, word, 6, 6])

    def test_a_lesson_from_a_store_taken_off_in_the_turn_of_the_loads_putting_in(self):
        # The window has room for the load only when the store is taken off, in turn 5.
        nerve = Writing(Guesser())
        mill = Mill([("store", 5, 3, 0), ("load", 0, 3, 0)], START, 1, 8, nerve=nerve)
        mill.turns(50)
        self.told([slip[5] for slip in mill.taken()], [(1, 2, 4, 5), (5, 6, 8, 9)])
        self.told((mill.taken()[1][3], nerve.written), (0, [(1, True)]))

    def test_a_load_that_takes_from_the_memory_what_came_there_while_it_waited(self):
        # Ticket 1 has the only bench for loads while the store is taken off.
        program = [("store", 5, 3, 0), ("load", 0, 2, 0), ("load", 1, 3, 0)]
        nerve = Writing(Guesser())
        mill = Mill(program, START, 8, 8, ((8, 1), (8, 1), (8, 1), (1, 2), (8, 1)), None, nerve)
        mill.turns(50)
        self.told([slip[3:4] + slip[5] for slip in mill.taken()],
                  [(None, 1, 2, 4, 5), (None, 1, 4, 6, 7), (0, 1, 6, 8, 9)])
        self.told(nerve.written, [(1, True), (2, False)])


class Names(Case):
    def test_over_pokes(self):
        mill = Mill([("set", 0, 5), ("move", 1, 0), ("sum", 0, 0, 1)], START, 2, 1, QUICK)
        mill.turns(4)
        self.told([slip[0:3] for slip in mill.inside()], [(1, 1, (0,)), (2, 2, (0, 1))])
        mill.poke(0, 0)
        mill.turns(2)
        self.told([slip[0:3] for slip in mill.inside()], [(3, 1, (0,)), (4, 2, (0, 3))])
        mill.turns(9)
        self.told([slip[0:3] for slip in mill.taken()], [(0, 0, ()), (3, 1, (0,)), (4, 2, (0, 3))])
        self.told((mill.halted(), mill.counts()), ("end", (5, 3, 2)))

    def test_over_throws(self):
        program = [("set", 0, 5), ("jump", 1, 3), ("set", 0, 6), ("move", 2, 0)]
        mill = Mill(program, START, 8, 8, QUICK)
        mill.turns(1)
        self.told([slip[2] for slip in mill.inside()], [(), (None,), (), (2,)])
        mill.turns(20)
        self.told([slip[0:3] for slip in mill.taken()], [(0, 0, ()), (1, 1, (None,)), (4, 3, (0,))])


class HaltedMills(Case):
    def refuses_all(self, mill):
        before = all_told(mill)
        self.refused(Halted, mill.turn)
        self.told([mill.turns(many) for many in (0, 1, 2000)], [0, 0, 0])
        for place in (0, 7, -1, 8, 10 ** 30):
            self.refused(Halted, mill.poke, place, 3)
        self.told(all_told(mill), before)

    def test_from_the_beginning(self):
        for program in ([], [("set", 0, 1)], [("fault", 1)] * 400):
            start = (len(program), BOXES, MEMORY)
            mill = Mill(program, start)
            self.told(all_told(mill), ([], [], start, "end", (0, 0, 0)))
            self.refuses_all(mill)

    def test_at_the_end(self):
        for program in ([("set", 0, 1)], [("go", 1)], [("jump", 1, 1)], [("jump", 0, 0)],
                        [("jump", 1, 2), ("fault", 1)]):
            for guesser in (Guesser(), Always()):
                mill = Mill(program, START, guesser=guesser)
                while mill.halted() is None:
                    told = mill.turn()
                self.told((mill.halted(), len(told), mill.stand()[0]), ("end", 1, len(program)))
                self.refuses_all(mill)

    def test_at_a_fault(self):
        for row in (("fault", 2), ("share", 0, 1, 0), ("rest", 0, 1, 0), ("load", 0, 0, -1), ("store", 0, 0, 8)):
            for program in ([row], [row, ("set", 0, 1)], [("set", 4, 1), row, ("go", 0)]):
                mill = Mill(program, START)
                mill.turns(40)
                self.told((mill.halted(), mill.inside()), ("fault", []))
                deeds, stand = run(program, START, 9)
                self.told((mill.taken()[-1][4], mill.stand()), (deeds[-1], stand))
                self.refuses_all(mill)

    def test_not_halted_while_the_window_has_a_slip(self):
        # The mill fetches at the end from turn 1 on, but the row isn't taken off before turn 4.
        mill = Mill([("set", 0, 1)], START)
        self.told([(mill.turn(), mill.halted()) for count in range(3)], [([], None)] * 3)
        mill.turn()
        self.told(mill.halted(), "end")


class Turns(Case):
    def test_so_many_are_done(self):
        endless = [("sum", 0, 0, 1), ("go", 0)]
        one, many = Mill(endless, START), Mill(endless, START)
        for turns in (0, 1, 2, 3, 10, 0, 50):
            self.told(many.turns(turns), turns)
            for count in range(turns):
                one.turn()
            self.told(all_told(many), all_told(one))

    def test_until_it_halts(self):
        for most in range(12):
            mill = Mill([("set", 0, 1), ("set", 0, 1), ("set", 0, 1)], START)
            self.told(mill.turns(most), min(most, 5))
            self.told(mill.halted(), "end" if most >= 5 else None)
            self.told(mill.turns(most), min(most, 5 - min(most, 5)))

    def test_two_thousand(self):
        program = [("sum", 0, 0, 1), ("rest", 2, 0, 6), ("store", 0, 2, 0), ("load", 3, 2, 0), ("jump", 1, 0)]
        mill = Mill(program, START, 32, 8, QUICK, Last(True), Last())
        self.told(mill.turns(2000), 2000)
        deeds, stand = run(program, START, mill.counts()[1])
        self.assertGreater(len(deeds), 1000)
        self.told(([slip[4] for slip in mill.taken()], mill.stand()), (deeds, stand))

    def test_four_hundred_rows(self):
        program = [("set", number % 8, GREATEST - number) for number in range(400)]
        mill = Mill(program, (0, BOXES, MEMORY * 8), 32, 8, QUICK)
        self.told(mill.turns(2000), 53)
        self.told((mill.stand(), mill.counts()), (run(program, (0, BOXES, MEMORY * 8), 400)[1], (400, 400, 0)))


class Pokes(Case):
    def test_behind_any_turn(self):
        program = [("load", 0, 2, 0), ("sum", 0, 0, 1), ("store", 0, 2, 0), ("load", 3, 2, 0), ("go", 5),
                   ("move", 4, 3)]
        for turns in range(30):
            mill = Mill(program, START, 4, 2)
            if mill.turns(turns) < turns:
                break
            off, inside = len(mill.taken()), len(mill.inside())
            put, taken, thrown = mill.counts()
            stand = mill.stand()
            if mill.halted() is not None:
                break
            self.told(mill.poke(2, 77), off)
            self.told((mill.inside(), mill.counts()), ([], (put, taken, thrown + inside)))
            poked = (stand[0], stand[1], MEMORY[:2] + (77,) + MEMORY[3:])
            self.told(mill.stand(), poked)
            self.told(mill.turn(), [])
            self.told([slip[0:2] for slip in mill.inside()][0], (put, stand[0]))
            mill.turns(100)
            deeds, end = run(program, poked, 100)
            self.told([slip[4] for slip in mill.taken()[off:]], deeds)
            self.told((mill.stand(), mill.halted()), (end, "end"))
        self.assertGreater(turns, 10)

    def test_twice_between_two_turns(self):
        mill = Mill([("load", 0, 2, 0)] * 3, START)
        mill.turns(2)
        self.told((mill.poke(2, 1), mill.poke(2, GREATEST), mill.poke(0, 0)), (0, 0, 0))
        self.told((mill.stand()[2], mill.counts()), ((0, 21, GREATEST) + MEMORY[3:], (3, 0, 3)))
        mill.turns(50)
        self.told(mill.stand(), (3, (GREATEST,) + BOXES[1:], (0, 21, GREATEST) + MEMORY[3:]))

    def test_ahead_of_the_first_turn(self):
        mill = Mill([("load", 0, 2, 0)], START)
        self.told(mill.poke(2, 9), 0)
        self.told((mill.counts(), mill.stand()[2]), ((0, 0, 0), (20, 21, 9) + MEMORY[3:]))
        self.told(mill.turns(50), 5)
        self.told(mill.taken()[0][3:5], (None, (0, 0, 2, 9, 1, None)))

    def test_no_place(self):
        for turns in range(9):
            mill = Mill([("load", 0, 2, 0), ("store", 0, 2, 0), ("jump", 0, 0), ("set", 0, 1)], START)
            mill.turns(turns)
            before = all_told(mill)
            for place in (-1, -8, 8, 9, 10 ** 59, -(10 ** 59)):
                self.refused(NoPlace, mill.poke, place, 5)
                self.told(all_told(mill), before)

    def test_no_place_changes_nothing_of_what_comes(self):
        program = [("rest", 1, 7, 4), ("store", 5, 1, 0), ("load", 0, 3, 0), ("sum", 2, 0, 1)]
        one, other = Mill(program, START), Mill(program, START)
        while one.halted() is None:
            self.refused(NoPlace, other.poke, 8, 5)
            self.told((other.turn(), all_told(other)), (one.turn(), all_told(one)))

    def test_benches_are_left(self):
        # The share is at work until turn 8; behind the poke its bench is free at once.
        mill = Mill([("share", 0, 7, 1)], START)
        mill.turns(3)
        mill.poke(0, 0)
        self.told(mill.turns(50), 9)
        self.told(mill.taken()[0][5], (4, 5, 11, 12))

    def test_nothing_is_learned_from_what_was_thrown_out(self):
        guesser, nerve = Writing(Guesser()), Writing(Always())
        mill = Mill([("times", 2, 2, 2), ("load", 0, 2, -4), ("jump", 0, 0)], START, guesser=guesser, nerve=nerve)
        mill.turns(7)
        # The load is finished by now, and its jump at work.
        self.told(([slip[5] for slip in mill.inside()][:2]), [(1, 5, 7, None), (2, 7, None, None)])
        self.told((mill.counts()[1], mill.poke(0, 0)), (1, 1))
        self.told((guesser.written, nerve.written), ([], []))
        self.told(mill.turns(100), 6)
        self.told((guesser.written, nerve.written), ([(2, False)], [(1, True)]))


class Unchanged(Case):
    def test_what_is_handed_in_stays(self):
        source = random.Random(302)
        for seed in range(60):
            program = wild_program(source, 20, 8)
            start = wild_start(source, 20, 8)
            table = any_table(source)
            before = copy.deepcopy((program, start, table))
            guesser, nerve = two_guessers(source, seed)
            mill = Mill(program, start, 8, 4, table, guesser, nerve)
            mill.turns(60)
            if mill.halted() is None:
                mill.poke(0, 3)
                mill.turns(9)
            self.told((program, start, table), before)

    def test_a_program_that_its_owner_changes_later(self):
        program = [("set", 0, 5), ("set", 1, 6), ("set", 2, 7)]
        one, other = Mill(program, START), Mill(list(program), START)
        program[1] = ("fault", 3)
        one.turn(), other.turn()
        program.clear()
        self.told(one.turns(20), other.turns(20))
        self.told(all_told(one), all_told(other))

    def test_the_guessers_themselves_are_used(self):
        guesser, nerve = Last(), Last(True)
        mill = Mill([("jump", 1, 2), ("set", 0, 1), ("store", 5, 3, 0), ("load", 0, 3, 0)], START, 8, 2, None, guesser,
                    nerve)
        mill.turns(50)
        self.told((guesser.guess(0), guesser.lessons(), nerve.guess(3), nerve.lessons()), (True, 1, False, 1))

    def test_lists_that_were_told(self):
        source = random.Random(303)
        program, start = calm_program(source, 30, 8), (0, BOXES, (0, 1, 2, 3, 4, 5, 6, 7))
        one, other = Mill(program, start), Mill(program, start)
        for count in range(60):
            if other.halted() is not None:
                break
            told, again = one.turn(), other.turn()
            self.told(told, again)
            told.append("x")
            for deed in (one.taken, one.inside):
                before = deed()
                changed = deed()
                changed.append("x")
                changed.reverse()
                self.told(deed(), before)
                changed.clear()
                self.told(deed(), before)
            self.told(all_told(one), all_told(other))

    def test_a_list_that_was_told_is_not_altered_by_later_deeds(self):
        mill = Mill([("sum", 0, 0, 1), ("load", 2, 1, 0), ("store", 0, 1, 0), ("go", 0)], START)
        told = []
        for count in range(40):
            if count == 20:
                mill.poke(1, 3)
            told.append((mill.turn(), mill.taken(), mill.inside()))
            kept = copy.deepcopy(told) if count == 15 else None if count < 15 else kept
        self.told(told[:16], kept)

    def test_asking_changes_nothing(self):
        program = [("sum", 0, 0, 1), ("load", 2, 1, 0), ("store", 0, 1, 0), ("jump", 0, 0)]
        one, other = Mill(program, START), Mill(program, START)
        for count in range(40):
            for times in range(3):
                all_told(one)
            self.told(one.turn(), other.turn())
        self.told(all_told(one), all_told(other))


if __name__ == "__main__":
    unittest.main()

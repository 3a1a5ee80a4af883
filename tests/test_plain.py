import copy
import random
import unittest

from aheadmill.errors import NoPlace
from aheadmill.plain import behind, does, poked, run
from aheadmill.texts import read
from tests.helper import BEYOND, GREATEST, KINDS, WAYS, WORKED, Case, any_row, any_words, run_in_place
from tests.helper import telling_words, wild_program

BOXES = (10, 11, 12, 13, 14, 15, 16, 17)
EMPTY = (0,) * 8

# Each kind once in one stand at row 2: boxes 0 to 7 hold 3, 5, 2, 0, 9, 1, 7, 63 and the memory 40 to 49.
STAND = (2, (3, 5, 2, 0, 9, 1, 7, 63), (40, 41, 42, 43, 44, 45, 46, 47, 48, 49))
DEEDS = [
    (("set", 4, 77), (2, 4, None, 77, 3, None)),
    (("move", 6, 1), (2, 6, None, 5, 3, None)),
    (("sum", 0, 1, 2), (2, 0, None, 7, 3, None)),
    (("less", 0, 2, 1), (2, 0, None, GREATEST - 2, 3, None)),
    (("times", 0, 1, 6), (2, 0, None, 35, 3, None)),
    (("share", 0, 4, 2), (2, 0, None, 4, 3, None)),
    (("rest", 0, 4, 2), (2, 0, None, 1, 3, None)),
    (("both", 0, 0, 1), (2, 0, None, 1, 3, None)),
    (("some", 0, 0, 1), (2, 0, None, 7, 3, None)),
    (("odd", 0, 0, 1), (2, 0, None, 6, 3, None)),
    (("up", 0, 1, 7), (2, 0, None, 1 << 63, 3, None)),
    (("down", 0, 4, 2), (2, 0, None, 2, 3, None)),
    (("below", 0, 2, 1), (2, 0, None, 1, 3, None)),
    (("same", 0, 2, 1), (2, 0, None, 0, 3, None)),
    (("load", 5, 1, -2), (2, 5, 3, 43, 3, None)),
    (("store", 4, 6, 2), (2, None, 9, 9, 3, None)),
    (("jump", 1, 0), (2, None, None, None, 0, None)),
    (("jump", 3, 0), (2, None, None, None, 3, None)),
    (("go", 4), (2, None, None, None, 4, None)),
    (("fault", 8), (2, None, None, None, None, ("told", 8))),
    (("share", 0, 4, 3), (2, None, None, None, None, ("nought", 9))),
    (("rest", 0, 1, 3), (2, None, None, None, None, ("nought", 5))),
    (("load", 5, 3, -1), (2, None, None, None, None, ("place", -1))),
    (("load", 5, 6, 3), (2, None, None, None, None, ("place", 10))),
    (("store", 5, 2, -999), (2, None, None, None, None, ("place", -997))),
    (("store", 5, 7, 999), (2, None, None, None, None, ("place", 1062))),
]


def at_row_two(row):
    return [("go", 0), ("go", 0), row, ("go", 0)]


class Does(Case):
    def test_all_nineteen_stand_here(self):
        self.assertEqual({row[0] for row, deed in DEEDS}, set(KINDS))

    def test_each_kind(self):
        for row, deed in DEEDS:
            with self.subTest(row=row):
                self.told(does(at_row_two(row), STAND), deed)

    def test_at_the_end(self):
        for rows in (0, 1, 4, 400):
            self.told(does([("go", 0)] * rows, (rows, BOXES, (1, 2))), None)

    def test_each_row_number(self):
        program = [("set", number % 8, number) for number in range(400)]
        for number in range(400):
            self.told(does(program, (number, BOXES, (1,))), (number, number % 8, None, number, number + 1, None))

    def test_every_place(self):
        for room in range(1, 65):
            memory = tuple(range(100, 100 + room))
            for place in range(-3, room + 4):
                boxes = (place + 3, 55, 0, 0, 0, 0, 0, 0)
                load = does([("load", 2, 0, -3)], (0, boxes, memory))
                store = does([("store", 1, 0, -3)], (0, boxes, memory))
                if 0 <= place < room:
                    self.told(load, (0, 2, place, 100 + place, 1, None))
                    self.told(store, (0, None, place, 55, 1, None))
                else:
                    fault = (0, None, None, None, None, ("place", place))
                    self.told((load, store), (fault, fault))

    def test_places_are_not_taken_round(self):
        boxes = (GREATEST,) + EMPTY[1:]
        fault = (0, None, None, None, None, ("place", BEYOND))
        for kind in ("load", "store"):
            self.told(does([(kind, 1, 0, 1)], (0, boxes, (1, 2, 3))), fault)

    def test_a_box_worked_with_itself(self):
        boxes = (6,) + EMPTY[1:]
        self.told(does([("times", 0, 0, 0)], (0, boxes, (1,))), (0, 0, None, 36, 1, None))
        self.told(does([("load", 0, 0, -6)], (0, boxes, (31,))), (0, 0, 0, 31, 1, None))
        self.told(does([("store", 0, 0, -6)], (0, boxes, (31,))), (0, None, 0, 6, 1, None))


class Behind(Case):
    def test_a_box_is_filled(self):
        for box in range(8):
            for word in (0, 1, GREATEST):
                boxes = tuple(word if number == box else BOXES[number] for number in range(8))
                self.told(behind((4, BOXES, (1, 2)), (4, box, None, word, 5, None)), (5, boxes, (1, 2)))

    def test_a_loads_place_is_left(self):
        for place in range(3):
            stand = behind((4, BOXES, (1, 2, 3)), (4, 2, place, 99, 5, None))
            self.told(stand, (5, (10, 11, 99, 13, 14, 15, 16, 17), (1, 2, 3)))

    def test_a_place_is_filled(self):
        for room in range(1, 65):
            memory = tuple(range(room))
            for place in range(room):
                filled = tuple(77 if number == place else number for number in range(room))
                self.told(behind((0, BOXES, memory), (0, None, place, 77, 1, None)), (1, BOXES, filled))

    def test_only_the_row_changes(self):
        for after in range(401):
            self.told(behind((4, BOXES, (1,)), (4, None, None, None, after, None)), (after, BOXES, (1,)))

    def test_the_same_behind_a_fault(self):
        for fault in (("nought", 0), ("nought", 5), ("place", -1), ("place", BEYOND), ("told", 0), ("told", 3)):
            stand = (4, BOXES, (1, 2))
            self.told(behind(stand, (4, None, None, None, None, fault)), (4, BOXES, (1, 2)))
            self.told(behind(stand, (9, 1, 0, 7, 2, fault)), (4, BOXES, (1, 2)))
            self.told(behind(stand, (9, None, 99, 7, 2, fault)), (4, BOXES, (1, 2)))

    def test_nothing_else_is_looked_at(self):
        for at in (0, 4, 5, 99, 400):
            self.told(behind((4, EMPTY, (1, 2)), (at, 0, None, 6, 9, None)), (9, (6,) + EMPTY[1:], (1, 2)))
            self.told(behind((4, EMPTY, (1, 2)), (at, None, 1, 6, 0, None)), (0, EMPTY, (1, 6)))
            self.told(behind((4, EMPTY, (1, 2)), (at, None, None, None, 400, None)), (400, EMPTY, (1, 2)))

    def test_behind_each_kind(self):
        for row, deed in DEEDS:
            after = behind(STAND, does(at_row_two(row), STAND))
            if deed[5] is not None:
                self.told(after, STAND)
            else:
                self.assertEqual(after[0], deed[4])
                for box in range(8):
                    self.told(after[1][box], deed[3] if box == deed[1] else STAND[1][box])
                for place in range(10):
                    filled = row[0] == "store" and place == deed[2]
                    self.told(after[2][place], deed[3] if filled else STAND[2][place])


COUNTING = read("set a 5\nset b 1\nloop:\nsum c c a\nless a a b\njump a loop\nstore c d 3")


class Run(Case):
    def test_a_loop_to_the_end(self):
        deeds, stand = run(COUNTING, (0, EMPTY, (0, 0, 0, 0)), 2000)
        self.assertEqual(len(deeds), 18)
        self.told(deeds[0], (0, 0, None, 5, 1, None))
        self.told(deeds[4], (4, None, None, None, 2, None))
        self.told(deeds[16], (4, None, None, None, 5, None))
        self.told(deeds[17], (5, None, 3, 15, 6, None))
        self.told(stand, (6, (0, 1, 15, 0, 0, 0, 0, 0), (0, 0, 0, 15)))

    def test_as_many_as_are_asked_for(self):
        start = (0, EMPTY, (0, 0, 0, 0))
        whole, last = run(COUNTING, start, 2000)
        stand = start
        for most in range(25):
            told = run(COUNTING, start, most)
            self.assertEqual((type(told), type(told[0])), (tuple, list))
            self.told(told, (whole[:most], stand))
            if most < len(whole):
                stand = behind(stand, whole[most])
        self.told(stand, last)

    def test_none_asked_for(self):
        for program in ([], COUNTING, [("fault", 3)], [("go", 0)]):
            self.told(run(program, (0, BOXES, (1,)), 0), ([], (0, BOXES, (1,))))

    def test_no_rows(self):
        self.told(run([], (0, BOXES, (1,)), 9), ([], (0, BOXES, (1,))))

    def test_a_start_at_any_row(self):
        program = [("set", 0, number) for number in range(6)]
        for at in range(7):
            deeds = [(number, 0, None, number, number + 1, None) for number in range(at, 6)]
            boxes = BOXES if at == 6 else (5,) + BOXES[1:]
            self.told(run(program, (at, BOXES, (1,)), 100), (deeds, (6, boxes, (1,))))

    def test_to_a_fault(self):
        for row, deed in DEEDS:
            if deed[5] is not None:
                program = [("go", 2), ("set", 0, 1), row, ("set", 0, 1)]
                start = (0, STAND[1], STAND[2])
                self.told(run(program, start, 50), ([(0, None, None, None, 2, None), deed], STAND))
                self.told(run(program, start, 2), ([(0, None, None, None, 2, None), deed], STAND))
                self.told(run(program, start, 1), ([(0, None, None, None, 2, None)], STAND))

    def test_a_loop_without_an_end(self):
        deeds, stand = run([("go", 0)], (0, EMPTY, (1,)), 2000)
        self.told(deeds, [(0, None, None, None, 0, None)] * 2000)
        self.told(stand, (0, EMPTY, (1,)))

    def test_two_thousand_stores(self):
        program = read("loop:\nstore a b 0\nsum a a c\nrest b a d\ngo loop")
        deeds, stand = run(program, (0, (0, 0, 1, 64, 0, 0, 0, 0), (0,) * 64), 2000)
        self.assertEqual(len(deeds), 2000)
        self.told(stand[1], (500, 500 % 64, 1, 64, 0, 0, 0, 0))
        self.told(stand[2], tuple(max(word for word in range(500) if word % 64 == place) for place in range(64)))


class RunInPlace(Case):
    def test_any_programs(self):
        source = random.Random(51)
        ends = {}
        for count in range(1500):
            rows, room = source.randint(0, 25), source.randint(1, 64)
            program = wild_program(source, rows, room)
            boxes = tuple(source.choice((0, 1, 2, 5, room, source.getrandbits(64))) for box in range(8))
            start = (source.randint(0, rows), boxes, tuple(any_words(count, room)))
            most = source.choice((0, 1, 5, 40, 200))
            answer = run_in_place(program, start, most)
            self.told(run(program, start, most), answer)
            end = answer[0][-1][5][0] if answer[0] and answer[0][-1][5] else "end" if len(answer[0]) < most else "most"
            ends[end] = ends.get(end, 0) + 1
        for end in ("nought", "place", "told", "end", "most"):
            self.assertGreater(ends.get(end, 0), 30, ends)

    def test_the_ways_of_the_other_machine(self):
        self.assertEqual(set(WORKED), set(WAYS))


class Poked(Case):
    def test_every_place(self):
        for room in range(1, 65):
            memory = tuple(range(200, 200 + room))
            for place in range(room):
                poke = tuple(9 if number == place else 200 + number for number in range(room))
                self.told(poked((7, BOXES, memory), place, 9), (7, BOXES, poke))

    def test_words(self):
        for word in telling_words():
            self.told(poked((0, EMPTY, (5, 6)), 1, word), (0, EMPTY, (5, word)))

    def test_no_place(self):
        for room in range(1, 65):
            stand = (7, BOXES, tuple(range(room)))
            for place in (-1, -2, -room, -room - 1, room, room + 1, 999, -999, GREATEST, BEYOND, 10 ** 59, -(10 ** 59)):
                self.refused(NoPlace, poked, stand, place, 9)
            self.told(stand, (7, BOXES, tuple(range(room))))


class Unchanged(Case):
    def test_what_is_handed_in_stays(self):
        program = list(COUNTING)
        start = (0, EMPTY, (0, 0, 0, 0))
        before = copy.deepcopy((program, start))
        does(program, start)
        behind(start, does(program, start))
        run(program, start, 100)
        poked(start, 2, 9)
        self.told((program, start), before)

    def test_a_list_that_was_told(self):
        start = (0, EMPTY, (0, 0, 0, 0))
        first = run(COUNTING, start, 100)
        kept = copy.deepcopy(first)
        first[0].clear()
        self.told(run(COUNTING, start, 100), kept)
        none = run([], start, 5)
        none[0].append("x")
        self.told(run([], start, 5), ([], start))


if __name__ == "__main__":
    unittest.main()

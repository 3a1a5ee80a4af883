import copy
import unittest

from aheadmill.rows import fills, goes, group_of, made, place_of, wants
from aheadmill.words import worked
from tests.helper import GREATEST, WAYS, Case, any_words, telling_words

# Each kind once, with its wants, what it fills and its group.
KINDS = [
    (("set", 3, 77), (), 3, 0),
    (("move", 1, 6), (6,), 1, 0),
    (("sum", 1, 2, 3), (2, 3), 1, 0),
    (("less", 2, 7, 0), (7, 0), 2, 0),
    (("times", 4, 5, 6), (5, 6), 4, 1),
    (("share", 6, 1, 4), (1, 4), 6, 2),
    (("rest", 5, 3, 2), (3, 2), 5, 2),
    (("both", 0, 1, 2), (1, 2), 0, 0),
    (("some", 7, 6, 5), (6, 5), 7, 0),
    (("odd", 0, 4, 1), (4, 1), 0, 0),
    (("up", 2, 3, 4), (3, 4), 2, 0),
    (("down", 3, 0, 7), (0, 7), 3, 0),
    (("below", 4, 2, 1), (2, 1), 4, 0),
    (("same", 5, 1, 0), (1, 0), 5, 0),
    (("load", 0, 3, -2), (3,), 0, 3),
    (("store", 2, 5, 9), (2, 5), None, 3),
    (("jump", 6, 4), (6,), None, 4),
    (("go", 3), (), None, 4),
    (("fault", 8), (), None, 4),
]


# The same box in every part of the row that is a box.
def alike(row, box):
    boxes = {"move": 2, "load": 2, "store": 2, "set": 1, "jump": 1, "go": 0, "fault": 0}.get(row[0], 3)
    return row[:1] + (box,) * boxes + row[1 + boxes:]


def words_for(row, seed):
    return tuple(any_words(seed, len(wants(row))))


class Asked(Case):
    def test_all_nineteen_stand_here(self):
        self.assertEqual(len({row[0] for row, boxes, box, group in KINDS}), 19)

    def test_wants(self):
        for row, boxes, box, group in KINDS:
            with self.subTest(row=row):
                self.told(wants(row), boxes)

    def test_fills(self):
        for row, boxes, box, group in KINDS:
            with self.subTest(row=row):
                self.told(fills(row), box)

    def test_group(self):
        for row, boxes, box, group in KINDS:
            with self.subTest(row=row):
                self.told(group_of(row), group)

    def test_the_same_box_in_every_part(self):
        for row, boxes, filled, group in KINDS:
            for box in range(8):
                same = alike(row, box)
                with self.subTest(row=same):
                    self.told(wants(same), (box,) * len(boxes))
                    self.told(fills(same), None if filled is None else box)
                    self.told(group_of(same), group)


class Places(Case):
    def test_every_step(self):
        for step in range(-999, 1000):
            for word in (0, 1, 63, 500, 999, 1000, GREATEST):
                self.told(place_of(("load", 1, 2, step), (word,)), word + step)
                self.told(place_of(("store", 1, 2, step), (12345, word)), word + step)

    def test_not_taken_round(self):
        self.told(place_of(("load", 0, 1, -1), (0,)), -1)
        self.told(place_of(("store", 0, 1, -999), (7, 0)), -999)
        self.told(place_of(("load", 0, 1, 1), (GREATEST,)), 18446744073709551616)
        self.told(place_of(("store", 0, 1, 999), (0, GREATEST)), 18446744073709552614)

    def test_none_of_every_other_kind(self):
        for row, boxes, box, group in KINDS:
            if row[0] not in ("load", "store"):
                with self.subTest(row=row):
                    self.told(place_of(row, words_for(row, 3)), None)


class Goes(Case):
    def test_the_next_row(self):
        for row, boxes, box, group in KINDS:
            if row[0] not in ("jump", "go"):
                for at in (0, 1, 57, 399):
                    self.told(goes(row, at, words_for(row, at)), at + 1)

    def test_jump(self):
        for at in (0, 5, 399):
            for target in (0, at, at + 1, 17, 400):
                self.told(goes(("jump", 2, target), at, (0,)), at + 1)
                for word in telling_words():
                    if word != 0:
                        self.told(goes(("jump", 2, target), at, (word,)), target)

    def test_go(self):
        for at in (0, 5, 399):
            for target in (0, at, at + 1, 17, 400):
                self.told(goes(("go", target), at, ()), target)

    def test_rows_that_make_a_fault(self):
        self.told(goes(("share", 0, 1, 2), 6, (9, 0)), 7)
        self.told(goes(("rest", 0, 1, 2), 6, (9, 0)), 7)
        self.told(goes(("load", 0, 1, -5), 6, (0,)), 7)
        self.told(goes(("store", 0, 1, 999), 6, (3, GREATEST)), 7)
        self.told(goes(("fault", 0), 6, ()), 7)


class Made(Case):
    def test_set_and_move(self):
        for word in telling_words():
            self.told(made(("set", 3, word), 4, (), 8, None), (4, 3, None, word, 5, None))
            self.told(made(("move", 7, 0), 0, (word,), 1, None), (0, 7, None, word, 1, None))

    def test_ways(self):
        for way in WAYS:
            for one in any_words(5, 20) + [0, GREATEST]:
                for other in any_words(6, 20) + [1, 64, GREATEST]:
                    if other != 0 or way not in ("share", "rest"):
                        deed = (9, 2, None, worked(way, one, other), 10, None)
                        self.told(made((way, 2, 4, 5), 9, (one, other), 3, None), deed)

    def test_ways_written_out(self):
        self.told(made(("less", 2, 4, 5), 9, (3, 4), 3, None), (9, 2, None, GREATEST, 10, None))
        self.told(made(("share", 0, 4, 5), 1, (17, 5), 3, None), (1, 0, None, 3, 2, None))
        self.told(made(("rest", 0, 4, 5), 1, (17, 5), 3, None), (1, 0, None, 2, 2, None))
        self.told(made(("below", 1, 4, 5), 0, (3, 4), 3, None), (0, 1, None, 1, 1, None))
        self.told(made(("same", 1, 4, 5), 0, (3, 4), 3, None), (0, 1, None, 0, 1, None))

    def test_jump_and_go(self):
        self.told(made(("jump", 1, 9), 4, (0,), 8, None), (4, None, None, None, 5, None))
        self.told(made(("jump", 1, 9), 4, (2,), 8, None), (4, None, None, None, 9, None))
        self.told(made(("jump", 1, 4), 4, (GREATEST,), 8, None), (4, None, None, None, 4, None))
        self.told(made(("jump", 1, 0), 4, (1,), 8, None), (4, None, None, None, 0, None))
        self.told(made(("go", 2), 7, (), 8, None), (7, None, None, None, 2, None))
        self.told(made(("go", 7), 7, (), 8, None), (7, None, None, None, 7, None))

    def test_places_in_the_memory(self):
        for room in range(1, 65):
            for place in range(room):
                for step in (0, -3, place, place - 999):
                    load = made(("load", 5, 6, step), 3, (place - step,), room, 81)
                    self.told(load, (3, 5, place, 81, 4, None))
                    store = made(("store", 5, 6, step), 3, (92, place - step), room, None)
                    self.told(store, (3, None, place, 92, 4, None))

    def test_held_is_told_as_it_stands(self):
        for word in telling_words():
            self.told(made(("load", 0, 1, 0), 0, (1,), 2, word), (0, 0, 1, word, 1, None))
            self.told(made(("store", 0, 1, 0), 0, (word, 1), 2, None), (0, None, 1, word, 1, None))

    def test_places_out_of_the_memory(self):
        for room in range(1, 65):
            for place in (-999, -2, -1, room, room + 1, 999 + room, GREATEST, GREATEST + 999):
                word = min(max(place, 0), GREATEST)
                step = place - word
                deed = (3, None, None, None, None, ("place", place))
                self.told(made(("load", 5, 6, step), 3, (word,), room, None), deed)
                self.told(made(("store", 5, 6, step), 3, (92, word), room, None), deed)

    def test_by_nought(self):
        for way in ("share", "rest"):
            for word in telling_words():
                deed = (8, None, None, None, None, ("nought", word))
                self.told(made((way, 1, 2, 3), 8, (word, 0), 4, None), deed)

    def test_fault_row(self):
        for word in telling_words():
            self.told(made(("fault", word), 2, (), 1, None), (2, None, None, None, None, ("told", word)))

    def test_six_parts(self):
        for row, boxes, box, group in KINDS:
            words = tuple([4] * len(boxes))
            deed = made(row, 11, words, 64, 6 if row[0] == "load" else None)
            self.assertIs(type(deed), tuple)
            self.assertEqual(len(deed), 6)
            self.told(deed[0], 11)
            if row[0] != "fault":
                self.told(deed[1], box)


class Unchanged(Case):
    def test_what_is_handed_in_stays(self):
        for row, boxes, box, group in KINDS:
            words = tuple([4] * len(boxes))
            before = copy.deepcopy((row, words))
            wants(row)
            fills(row)
            group_of(row)
            place_of(row, words)
            goes(row, 2, words)
            first = made(row, 2, words, 16, 5)
            self.told((row, words), before)
            self.told(made(row, 2, words, 16, 5), first)


if __name__ == "__main__":
    unittest.main()

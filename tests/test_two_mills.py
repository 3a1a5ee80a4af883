"""Holds the mill against another one that keeps plain records and looks everything up anew, turn by turn."""

import copy
import random
import types
import unittest

from aheadmill.mill import Mill
from tests.helper import WAYS, Case, any_table, calm_program, calm_start, deed_alone, two_guessers, wanted
from tests.helper import wild_program, wild_start

KINDS_SEEN = ("bite", "wrong way", "wait", "near", "far", "given", "poke")


def filled(row):
    return row[1] if row[0] in WAYS + ("set", "move", "load") else None


def group(row):
    groups = (("times",), ("share", "rest"), ("load", "store"), ("jump", "go", "fault"))
    return sum(number for number, kinds in enumerate(groups, 1) if row[0] in kinds)


class OtherMill:
    def __init__(self, program, stand, size, wide, table, guesser, nerve):
        self.program, self.start, self.size, self.wide, self.table = program, stand, size, wide, table
        self.guesser, self.nerve = guesser, nerve
        self.at, self.boxes, self.memory = stand[0], list(stand[1]), list(stand[2])
        self.fetch, self.now, self.put, self.thrown, self.fault = stand[0], 0, 0, 0, False
        self.window, self.off, self.stored, self.seen = [], [], [], {}

    def saw(self, deed):
        self.seen[deed] = self.seen.get(deed, 0) + 1

    def slip(self, it):
        return (it.ticket, it.at, it.names, it.giver, it.deed, (it.put, it.started, it.finished, it.off))

    def halted(self):
        if self.fault:
            return "fault"
        return "end" if not self.window and self.fetch == len(self.program) else None

    # A word is given where whoever gives it is finished, and no fault: nothing is handed round here.
    def word(self, it, want):
        if it.names[want] is None:
            return self.start[1][wanted(it.row)[want]]
        giver = [other for other in self.off + self.window if other.ticket == it.names[want]][0]
        return giver.deed[3] if giver.deed else None

    def words(self, it):
        return [self.word(it, want) for want in range(len(it.names))]

    def place(self, it):
        base = self.words(it)[-1]
        return None if base is None else base + it.row[3]

    def throw(self, it):
        number = self.window.index(it)
        self.thrown += len(self.window) - number
        self.window = self.window[:number]

    def turn(self):
        self.now += 1
        taken = self.take()
        if not self.fault:
            for it in list(self.window):
                if it in self.window and it.started and it.started + self.table[group(it.row)][1] == self.now:
                    self.finish(it)
            for it in self.window:
                self.try_start(it)
            self.fetch_rows()
        return taken

    def take(self):
        taken = []
        while self.window and self.window[0].finished and len(taken) < self.wide and not self.fault:
            it = self.window.pop(0)
            it.off = self.now
            self.off.append(it)
            taken.append(self.slip(it))
            box, place, word, after, self.fault = it.deed[1], it.deed[2], it.deed[3], it.deed[4], bool(it.deed[5])
            if self.fault:
                self.thrown += len(self.window)
                self.window = []
                break
            self.at = after
            if it.row[0] == "store":
                self.memory[place] = word
                self.stored.append((place, it))
            elif box is not None:
                self.boxes[box] = word
            if it.row[0] == "jump":
                self.guesser.learn(it.at, self.word(it, 0) != 0)
            if it.row[0] == "load":
                givers = [other for other in self.off if other.ticket == it.giver]
                near = givers != [] and givers[0].off > it.put
                self.nerve.learn(it.at, not near)
                self.saw("near" if near else "far")
        return taken

    def finish(self, it):
        it.deed = deed_alone(self.program, it.at, self.words(it), len(self.memory), it.took)
        it.finished = self.now
        for store in list(self.window):
            if store in self.window and store.row[0] == "store" and store.names[1] == it.ticket and not it.deed[5]:
                self.bite(store)
        if it.row[0] == "jump" and it.deed[4] != it.chosen:
            self.fetch = it.deed[4]
            self.saw("wrong way")
            if it != self.window[-1]:
                self.throw(self.window[self.window.index(it) + 1])

    def bite(self, store):
        for load in self.window[self.window.index(store) + 1:]:
            if load.row[0] == "load" and load.took is not None and self.place(load) == self.place(store):
                if load.giver is None or load.giver < store.ticket:
                    self.fetch = load.at
                    self.saw("bite")
                    return self.throw(load)

    def try_start(self, it):
        number = group(it.row)
        busy = [one for one in self.window if one.started and not one.finished and group(one.row) == number]
        if it.put == self.now or it.started or None in self.words(it) or len(busy) == self.table[number][0]:
            return
        if it.row[0] == "load" and self.place(it) in range(len(self.memory)) and not self.takes(it):
            return self.saw("wait")
        it.started = self.now

    def takes(self, it):
        for store in reversed(self.window[:self.window.index(it)]):
            if store.row[0] == "store" and self.place(store) is None and not it.dares:
                return False
            if store.row[0] == "store" and self.place(store) == self.place(it):
                it.giver, it.took = store.ticket, self.word(store, 0)
                # It waits, so nothing gave it a word.
                if it.took is None:
                    it.giver = None
                return it.took is not None
        it.took = self.memory[self.place(it)]
        for place, store in self.stored:
            if place == self.place(it):
                it.giver = store and store.ticket
                self.saw("given")
        return True

    def fetch_rows(self):
        for count in range(self.wide):
            if len(self.window) == self.size or self.fetch == len(self.program):
                break
            row, at = self.program[self.fetch], self.fetch
            names = []
            for box in wanted(row):
                fillers = [other.ticket for other in self.off + self.window if filled(other.row) == box]
                names.append(fillers[-1] if fillers else None)
            it = types.SimpleNamespace(ticket=self.put, at=at, row=row, names=tuple(names), giver=None, deed=None,
                                       put=self.now, started=None, finished=None, off=None, took=None, dares=None)
            self.put += 1
            self.window.append(it)
            it.dares = row[0] == "load" and self.nerve.guess(at)
            it.chosen = at + 1
            if row[0] == "go" or row[0] == "jump" and self.guesser.guess(at):
                it.chosen = row[-1]
            self.fetch = it.chosen

    def poke(self, place, word):
        self.thrown += len(self.window)
        self.window = []
        self.fetch = self.at
        self.memory[place] = word
        self.stored.append((place, None))
        self.saw("poke")
        return len(self.off)

    def told(self):
        return {"inside": [self.slip(it) for it in self.window], "taken": [self.slip(it) for it in self.off],
                "stand": (self.at, tuple(self.boxes), tuple(self.memory)), "halted": self.halted(),
                "counts": (self.put, len(self.off), self.thrown)}


def told_by(mill):
    return {"inside": mill.inside(), "taken": mill.taken(), "stand": mill.stand(), "halted": mill.halted(),
            "counts": mill.counts()}


class TwoMills(Case):
    def held_against(self, source, seed, program, start):
        size, wide = source.choice((1, 2, 3, 8, 32, source.randint(1, 32))), source.randint(1, 8)
        table = any_table(source)
        guesser, nerve = two_guessers(source, seed)
        other_guesser, other_nerve = copy.deepcopy((guesser, nerve))
        mill = Mill(program, start, size, wide, table, guesser, nerve)
        other = OtherMill(program, start, size, wide, table, other_guesser, other_nerve)
        self.told(told_by(mill), other.told())
        for count in range(100):
            if other.halted():
                break
            # Pokes in every third run.
            if seed % 3 == 0 and source.random() < 0.1:
                place, word = source.randrange(len(start[2])), source.randrange(len(start[2]))
                self.told(mill.poke(place, word), other.poke(place, word))
                self.told(told_by(mill), other.told())
            self.told(mill.turn(), other.turn())
            self.told(told_by(mill), other.told())
            self.assertEqual((guesser.lessons(), nerve.lessons()), (other_guesser.lessons(), other_nerve.lessons()))
        return other

    def test_calm_programs(self):
        source = random.Random(101)
        seen = {}
        for seed in range(500):
            room = source.choice((1, 2, 4, 8, 64))
            program = calm_program(source, source.randint(1, 50), room)
            other = self.held_against(source, seed, program, calm_start(source, len(program), room))
            seen = {deed: seen.get(deed, 0) + other.seen.get(deed, 0) for deed in KINDS_SEEN}
        # So much of each came, or else this test looks at too little.
        self.assertGreater(min(seen.values()), 50, seen)

    def test_wild_programs(self):
        source = random.Random(102)
        ends = {}
        for seed in range(600):
            room = source.choice((1, 2, 4, 8, 64))
            program = wild_program(source, source.randint(0, 25), room)
            other = self.held_against(source, seed, program, wild_start(source, len(program), room))
            ends[other.halted()] = ends.get(other.halted(), 0) + 1
        for end in ("fault", "end", None):
            self.assertGreater(ends.get(end, 0), 50, ends)


if __name__ == "__main__":
    unittest.main()

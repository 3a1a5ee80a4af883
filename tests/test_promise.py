"""The promise over the whole: whoever looks at what was taken off sees the plain machine's run and nothing else."""

import random
import unittest

from aheadmill.checks import wrong
from aheadmill.errors import Halted
from aheadmill.mill import Mill
from tests.helper import KINDS, Case, Writing, any_guesser, any_table, calm_program, calm_start, run_in_place, wanted
from tests.helper import wild_program, wild_start


# A plain machine that goes along with the mill, row by row, and knows who filled each box and each place.
class Beside:
    def __init__(self, case, program, start):
        self.case, self.program, self.stand = case, program, start
        self.fillers, self.storers, self.times = {}, {}, {}
        self.guessed, self.dared = [], []
        self.fault, self.slips = False, []

    def at_end(self):
        return self.stand[0] == len(self.program)

    def follow(self, slip):
        ticket, at, names, giver, deed, times = slip
        self.case.assertFalse(self.fault or self.at_end())
        deeds, after = run_in_place(self.program, self.stand, 1)
        self.case.told(deed, deeds[0])
        self.case.assertEqual(at, deed[0])
        row = self.program[at]
        self.case.told(names, tuple(self.fillers.get(box) for box in wanted(row)))
        is_load = row[0] == "load" and deed[5] is None
        self.case.told(giver, self.storers.get(deed[2]) if is_load else None)
        self.learn(row, slip, is_load)
        if deed[1] is not None:
            self.fillers[deed[1]] = ticket
        elif deed[2] is not None:
            self.storers[deed[2]] = ticket
        self.stand, self.fault = after, deed[5] is not None
        self.times[ticket] = times
        self.slips.append(slip)

    def learn(self, row, slip, is_load):
        if row[0] == "jump":
            self.guessed.append((slip[1], self.stand[1][row[1]] != 0))
        if is_load:
            near = slip[3] is not None and self.times[slip[3]][3] > slip[5][0]
            self.dared.append((slip[1], not near))

    def poke(self, place, word):
        at, boxes, memory = self.stand
        self.stand = (at, boxes, memory[:place] + (word,) + memory[place + 1:])
        self.storers.pop(place, None)

    def halted(self):
        return "fault" if self.fault else "end" if self.at_end() else None


class Promise(Case):
    def kept(self, source, seed, program, start, pokes):
        table = any_table(source)
        guesser, nerve = Writing(any_guesser(source, seed)), Writing(any_guesser(source, seed // 8))
        mill = Mill(program, start, source.choice((1, 2, 8, 32, source.randint(1, 32))), source.randint(1, 8), table,
                    guesser, nerve)
        beside = Beside(self, program, start)
        turns, last, poked = 0, 0, 0
        most = 2 * max(long for many, long in table) + 2
        while turns < 150 and beside.halted() is None:
            self.assertIsNone(mill.halted())
            if pokes and source.random() < 0.05:
                place, word = source.randrange(len(start[2])), source.randrange(len(start[2]))
                self.told(mill.poke(place, word), len(beside.slips))
                beside.poke(place, word)
                last, poked = turns, poked + 1
            turns += 1
            taken = mill.turn()
            for slip in taken:
                beside.follow(slip)
                self.assertEqual(slip[5][3], turns)
            self.assertLessEqual(turns - last, most)
            last = turns if taken else last
            self.behind_a_turn(mill, beside)
        self.behind_a_turn(mill, beside)
        self.told(mill.taken(), beside.slips)
        self.told((guesser.written, nerve.written), (beside.guessed, beside.dared))
        if not poked:
            self.told(wrong(program, start, mill.taken()), None)
        if mill.halted():
            self.halts(mill, turns)
        return beside

    def behind_a_turn(self, mill, beside):
        self.told(mill.stand(), beside.stand)
        self.told(mill.halted(), beside.halted())
        put, taken, thrown = mill.counts()
        inside = mill.inside()
        self.assertEqual((taken, put - taken - thrown), (len(beside.slips), len(inside)))
        tickets = [slip[0] for slip in beside.slips[-9:] + inside]
        self.assertEqual(tickets, sorted(set(tickets)))
        self.assertTrue(not tickets or tickets[-1] < put)

    def halts(self, mill, turns):
        before = (mill.taken(), mill.stand(), mill.counts(), mill.halted())
        self.refused(Halted, mill.turn)
        self.refused(Halted, mill.poke, 0, 1)
        self.refused(Halted, mill.poke, -1, 1)
        self.told(mill.turns(5), 0)
        self.told(mill.inside(), [])
        self.told((mill.taken(), mill.stand(), mill.counts(), mill.halted()), before)

    def test_calm_programs(self):
        source = random.Random(201)
        kinds = {}
        for seed in range(640):
            room = source.choice((1, 2, 4, 8, 16, 32, 64))
            program = calm_program(source, source.randint(1, 60), room)
            beside = self.kept(source, seed, program, calm_start(source, len(program), room), seed % 4 == 0)
            for slip in beside.slips:
                kinds[program[slip[1]][0]] = kinds.get(program[slip[1]][0], 0) + 1
        # A calm program has no fault row.
        self.assertEqual(set(kinds), set(KINDS[:-1]))

    def test_wild_programs(self):
        source = random.Random(202)
        ends = {}
        for seed in range(960):
            room = source.choice((1, 2, 4, 8, 64))
            program = wild_program(source, source.randint(0, 30), room)
            beside = self.kept(source, seed, program, wild_start(source, len(program), room), seed % 4 == 0)
            end = beside.slips[-1][4][5][0] if beside.fault else beside.halted()
            ends[end] = ends.get(end, 0) + 1
        for end in ("nought", "place", "told", "end", None):
            self.assertGreater(ends.get(end, 0), 20, ends)


if __name__ == "__main__":
    unittest.main()

import copy
import random
import unittest

from aheadmill.checks import wrong
from aheadmill.mill import Mill
from tests.helper import Case, any_table, calm_program, calm_start, deed_alone, two_guessers, wanted, wild_program
from tests.helper import wild_start

BOXES = (0, 1, 2, 3, 4, 5, 6, 7)
MEMORY = (20, 21, 22, 23, 24, 25, 26, 27)
START = (0, BOXES, MEMORY)
PROGRAM = [("set", 0, 3), ("store", 5, 0, 0), ("load", 1, 0, 0), ("sum", 1, 1, 0), ("load", 2, 7, -3), ("jump", 1, 6),
           ("store", 1, 0, 1), ("times", 4, 1, 2), ("load", 6, 3, 0)]


def slips_of(program, start, turns=300, **given):
    mill = Mill(program, start, **given)
    mill.turns(turns)
    return mill.taken()


SLIPS = [
    (0, 0, (), None, (0, 0, None, 3, 1, None), (1, 2, 3, 4)),
    (1, 1, (None, 0), None, (1, None, 3, 5, 2, None), (1, 3, 4, 5)),
    (4, 2, (0,), 1, (2, 1, 3, 5, 3, None), (1, 5, 7, 8)),
    (5, 3, (4, 0), None, (3, 1, None, 8, 4, None), (2, 7, 8, 9)),
    (6, 4, (None,), None, (4, 2, 4, 24, 5, None), (2, 7, 8, 9)),
    (7, 5, (5,), None, (5, None, None, None, 6, None), (2, 8, 9, 10)),
    (9, 6, (5, 0), None, (6, None, 4, 8, 7, None), (3, 8, 9, 10)),
    (10, 7, (5, 6), None, (7, 4, None, 192, 8, None), (3, 8, 12, 13)),
    (11, 8, (None,), 1, (8, 6, 3, 5, 9, None), (9, 10, 12, 20)),
]


# Another slip with one of its parts changed; of its deed and its times, too.
def spoiled(slip, number, part):
    return slip[:number] + (part,) + slip[number + 1:]


def with_deed(slip, number, part):
    return spoiled(slip, 4, spoiled(slip[4], number, part))


def with_time(slip, number, part):
    return spoiled(slip, 5, spoiled(slip[5], number, part))


# By the document's words, looking over all slips ahead each time.
def right_by_words(program, start, ahead, slip):
    ticket, at, names, giver, deed, (put, started, finished, off) = slip
    last = ahead[-1] if ahead else None
    if ticket <= (last[0] if last else -1) or any(other[4][5] for other in ahead):
        return False
    if at != (last[4][4] if last else start[0]) or at == len(program):
        return False
    row, fillers = program[at], []
    for box in wanted(row):
        fillers.append(([other for other in ahead if other[4][1] == box] or [None])[-1])
    if names != tuple(filler and filler[0] for filler in fillers):
        return False
    words = [filler[4][3] if filler else start[1][box] for filler, box in zip(fillers, wanted(row))]
    storer, held = None, None
    if row[0] == "load" and 0 <= words[0] + row[3] < len(start[2]):
        place = words[0] + row[3]
        storers = [other for other in ahead if program[other[1]][0] == "store" and other[4][2] == place]
        storer = storers[-1][0] if storers else None
        held = storers[-1][4][3] if storers else start[2][place]
    if deed != deed_alone(program, at, words, len(start[2]), held) or giver != storer:
        return False
    if put < (last[5][0] if last else 1) or not put < started < finished < off or off < (last[5][3] if last else 0):
        return False
    return all(started >= filler[5][2] for filler in fillers if filler)


def wrong_by_words(program, start, slips):
    for number, slip in enumerate(slips):
        if not right_by_words(program, start, slips[:number], slip):
            return number
    return None


class Right(Case):
    def test_slips_written_by_hand(self):
        self.told(wrong(PROGRAM, START, SLIPS), None)
        for many in range(len(SLIPS)):
            self.told(wrong(PROGRAM, START, SLIPS[:many]), None)

    def test_no_slips(self):
        for program in ([], PROGRAM):
            for at in (0, len(program)):
                self.told(wrong(program, (at, BOXES, MEMORY), []), None)

    def test_slips_of_runs(self):
        source = random.Random(401)
        faults = 0
        for seed in range(300):
            room = source.choice((1, 4, 8, 64))
            calm = seed % 2 == 0
            program = calm_program(source, 40, room) if calm else wild_program(source, 20, room)
            start = calm_start(source, 40, room) if calm else wild_start(source, 20, room)
            guesser, nerve = two_guessers(source, seed)
            slips = slips_of(program, start, 100, size=source.randint(1, 32), wide=source.randint(1, 8),
                             table=any_table(source), guesser=guesser, nerve=nerve)
            self.told(wrong(program, start, slips), None)
            faults += bool(slips and slips[-1][4][5])
        self.assertGreater(faults, 50)

    def test_tickets_with_gaps_and_late_times(self):
        far = [spoiled(SLIPS[-1], 0, 10 ** 18), with_time(SLIPS[-1], 3, 10 ** 18), with_time(SLIPS[-1], 0, 3)]
        for slip in far:
            self.told(wrong(PROGRAM, START, SLIPS[:-1] + [slip]), None)
        # Started in the very turn in which what it names is finished; put in and off together with the one ahead.
        self.told(SLIPS[2][5][1] >= SLIPS[0][5][2], True)
        self.told(wrong(PROGRAM, START, SLIPS[:2] + [with_time(SLIPS[2], 1, 3)]), None)
        self.told(wrong(PROGRAM, START, SLIPS[:2] + [with_time(with_time(SLIPS[2], 2, 4), 1, 3)]), None)

    def test_each_fault(self):
        for row, fault in ((("fault", 4), ("told", 4)), (("share", 1, 2, 0), ("nought", 2)),
                           (("rest", 1, 2, 0), ("nought", 2)), (("load", 1, 2, -3), ("place", -1)),
                           (("store", 1, 2, 6), ("place", 8))):
            names = (None,) * len(wanted(row))
            slip = (0, 0, names, None, (0, None, None, None, None, fault), (1, 2, 3, 4))
            self.told(wrong([row], START, [slip]), None)
            self.told(wrong([row], START, [slip, (1, 1, (), None, (1, 0, None, 1, 2, None), (1, 2, 3, 4))]), 1)
            self.told(wrong([row, row], START, [slip, (1, 1, names, None, (1,) + slip[4][1:], (1, 2, 3, 4))]), 1)
            self.told(wrong([row], START, [slip, (1,) + slip[1:]]), 1)
            self.told(wrong([row], START, [spoiled(slip, 3, 0)]), 0)
            self.told(wrong([row], START, [with_deed(slip, 4, 1)]), 0)
            self.told(wrong([row], START, [with_deed(slip, 5, (fault[0], fault[1] + 1))]), 0)
            self.told(wrong([row], START, [with_deed(slip, 5, None)]), 0)


class Spoiled(Case):
    # At this slip alone, whatever stands behind it.
    def spoils(self, number, slip):
        slips = SLIPS[:number] + [slip] + SLIPS[number + 1:]
        self.told(wrong(PROGRAM, START, slips), number)
        self.told(wrong(PROGRAM, START, slips[:number + 1]), number)

    def test_tickets(self):
        self.spoils(0, spoiled(SLIPS[0], 0, -1))
        for number in range(1, len(SLIPS)):
            for ticket in (-1, 0, SLIPS[number - 1][0], SLIPS[number - 1][0] - 1):
                self.spoils(number, spoiled(SLIPS[number], 0, ticket))

    def test_rows(self):
        for number, slip in enumerate(SLIPS):
            for at in range(len(PROGRAM) + 1):
                if at != slip[1]:
                    self.spoils(number, spoiled(slip, 1, at))
                    self.spoils(number, with_deed(spoiled(slip, 1, at), 0, at))

    def test_names(self):
        for number, slip in enumerate(SLIPS):
            names = slip[2]
            for other in (names + (None,), names + (0,), (None,) + names + (None,), (10 ** 18,) + names):
                self.spoils(number, spoiled(slip, 2, other))
            for want in range(len(names)):
                self.spoils(number, spoiled(slip, 2, names[:want] + names[want + 1:]))
                for ticket in (None, 0, 2, 3, 4, 10 ** 18):
                    if ticket != names[want]:
                        self.spoils(number, spoiled(slip, 2, spoiled(names, want, ticket)))

    def test_givers(self):
        for number, slip in enumerate(SLIPS):
            for giver in (None, 0, 1, 2, 4, 9, slip[0], 10 ** 18):
                if giver != slip[3]:
                    self.spoils(number, spoiled(slip, 3, giver))

    def test_deeds(self):
        parts = {0: (0, 1, 9, -1), 1: (None, 0, 1, 7), 2: (None, 0, 3, 4, -1, 10 ** 59), 3: (None, 0, 5, 6, 24),
                 4: (None, 0, 2, 5, 9, -4), 5: (("nought", 0), ("place", 3), ("told", 3))}
        for number, slip in enumerate(SLIPS):
            for part in parts:
                for other in parts[part]:
                    if other != slip[4][part]:
                        self.spoils(number, with_deed(slip, part, other))
            self.spoils(number, spoiled(slip, 4, (slip[1], None, None, None, None, ("told", 1))))

    def test_times(self):
        for number, slip in enumerate(SLIPS):
            put, started, finished, off = slip[5]
            times = [(0, started, finished, off), (-1, started, finished, off), (started, started, finished, off),
                     (started + 1, started, finished, off), (put, finished, finished, off),
                     (put, finished + 1, finished, off), (put, started, off, off), (put, started, off + 1, off),
                     (put, started, finished, finished), (put, started, started, off), (put, put, finished, off)]
            if number:
                ahead = SLIPS[number - 1][5]
                times += [(ahead[0] - 1, started, finished, off), (put, started, finished, ahead[3] - 1)]
            for other in times:
                self.spoils(number, spoiled(slip, 5, other))

    def test_started_ahead_of_what_it_names(self):
        slips = {slip[0]: slip for slip in SLIPS}
        for number, slip in enumerate(SLIPS):
            for name in slip[2]:
                if name is not None and slips[name][5][2] - 1 > slip[5][0]:
                    self.spoils(number, with_time(slip, 1, slips[name][5][2] - 1))
        # Of two names either alone.
        program = [("times", 0, 1, 1), ("times", 2, 1, 1), ("sum", 3, 0, 2), ("sum", 3, 2, 0)]
        slips = [(0, 0, (None, None), None, (0, 0, None, 1, 1, None), (1, 2, 5, 6)),
                 (1, 1, (None, None), None, (1, 2, None, 1, 2, None), (1, 2, 9, 10)),
                 (2, 2, (0, 1), None, (2, 3, None, 2, 3, None), (1, 9, 11, 12)),
                 (3, 3, (1, 0), None, (3, 3, None, 2, 4, None), (1, 9, 11, 12))]
        self.told(wrong(program, START, slips), None)
        for number in (2, 3):
            self.told(wrong(program, START, slips[:number] + [with_time(slips[number], 1, 8)]), number)

    def test_left_out(self):
        for number in range(len(SLIPS) - 1):
            self.told(wrong(PROGRAM, START, SLIPS[:number] + SLIPS[number + 1:]), number)

    def test_told_twice(self):
        for number in range(len(SLIPS)):
            self.told(wrong(PROGRAM, START, SLIPS[:number + 1] + SLIPS[number:]), number + 1)

    def test_one_more_behind_the_end(self):
        more = (12, 9, (), None, (9, None, None, None, 10, None), (9, 10, 12, 20))
        self.told(wrong(PROGRAM, START, SLIPS + [more]), 9)
        self.told(wrong(PROGRAM, (9, BOXES, MEMORY), [more]), 0)
        self.told(wrong([], START, [spoiled(more, 1, 0)]), 0)

    def test_another_start_or_program(self):
        self.told(wrong(PROGRAM, (1, BOXES, MEMORY), SLIPS), 0)
        self.told(wrong(PROGRAM, (0, BOXES[:5] + (9, 6, 7), MEMORY), SLIPS), 1)
        self.told(wrong(PROGRAM, (0, BOXES, MEMORY[:4] + (99, 25, 26, 27)), SLIPS), 4)
        self.told(wrong(PROGRAM, (0, BOXES, MEMORY[:3]), SLIPS), 1)
        self.told(wrong(PROGRAM[:5], START, SLIPS), 5)
        self.told(wrong([("go", 1)] + PROGRAM[1:], START, SLIPS), 0)

    def test_the_first_of_several(self):
        for number in range(len(SLIPS)):
            slips = SLIPS[:number] + [spoiled(slip, 3, 77) for slip in SLIPS[number:]]
            self.told(wrong(PROGRAM, START, slips), number)


class ByWords(Case):
    def any_spoiled(self, source, slip, slips, number):
        near = source.choice(slips)
        whole = (None, -1, 0, 1, 2, 3, slip[0], near[0], near[1], number, source.randint(0, 60))
        numbers = whole[1:]
        part = source.randrange(6)
        if part < 2:
            most = max(other[1] for other in slips)
            return spoiled(slip, part, source.choice(numbers) if part == 0 else source.randint(0, most))
        if part == 2:
            names = [source.choice(whole) if source.random() < 0.4 else name for name in slip[2]]
            return spoiled(slip, 2, tuple(names + [source.choice(whole)] * source.choice((0, 0, 0, 1))))
        if part == 3:
            return spoiled(slip, 3, source.choice(whole))
        if part == 4:
            inner = source.randrange(5)
            return source.choice((spoiled(slip, 4, near[4]),
                                  with_deed(slip, inner, source.choice(numbers if inner == 0 else whole))))
        inner = source.randrange(4)
        return with_time(slip, inner, slip[5][inner] + source.choice((-9, -2, -1, 1, 1, 2, 9)))

    def test_any_slips(self):
        source = random.Random(402)
        answers = {}
        for seed in range(1500):
            room = source.choice((1, 4, 8))
            program = calm_program(source, 25, room) if seed % 3 else wild_program(source, 12, room)
            start = calm_start(source, 25, room) if seed % 3 else wild_start(source, 12, room)
            slips = slips_of(program, start, 30, size=source.randint(1, 16), wide=source.randint(1, 4))
            for number in sorted(source.sample(range(len(slips)), min(len(slips), source.choice((0, 1, 1, 2))))):
                slips[number] = self.any_spoiled(source, slips[number], slips, number)
            answer = wrong_by_words(program, start, slips)
            self.told(wrong(program, start, slips), answer)
            kind = {None: "right", 0: "first", len(slips) - 1: "last"}.get(answer, "middle")
            answers[kind] = answers.get(kind, 0) + 1
        self.assertGreater(min(answers.values()), 50, answers)
        self.assertEqual(len(answers), 4)

    def test_the_slips_written_by_hand(self):
        self.told(wrong_by_words(PROGRAM, START, SLIPS), None)


class Unchanged(Case):
    def test_what_is_handed_in_stays(self):
        given = (list(PROGRAM), START, list(SLIPS))
        before = copy.deepcopy(given)
        wrong(*given)
        self.told(given, before)
        given[2][3] = spoiled(SLIPS[3], 3, 8)
        before = copy.deepcopy(given)
        self.told((wrong(*given), wrong(*given)), (3, 3))
        self.told(given, before)


if __name__ == "__main__":
    unittest.main()

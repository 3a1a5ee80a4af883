"""What the tests share: comparisons that tell kinds and refusals apart, and words, rows and programs to try."""

import random
import unittest

from aheadmill.errors import MillError
from aheadmill.guessers import Always, Chosen, Counts, Guesser, Last, Listed, Paths, Turned
from aheadmill.slots import Window
from aheadmill.taking import Ledger

BEYOND = 18446744073709551616
GREATEST = 18446744073709551615
WAYS = ("sum", "less", "times", "share", "rest", "both", "some", "odd", "up", "down", "below", "same")
KINDS = WAYS + ("set", "move", "load", "store", "jump", "go", "fault")
BOXES = "abcdefgh"


class Case(unittest.TestCase):
    def told(self, value, expected):
        # True == 1, so the written form is compared too.
        self.assertEqual((value, repr(value)), (expected, repr(expected)))

    # The very class of the refusal, none above or beside it.
    def refused(self, kind, deed, *given):
        with self.assertRaises(MillError) as caught:
            deed(*given)
        self.assertIs(type(caught.exception), kind)
        return caught.exception


def any_words(seed, many):
    source = random.Random(seed)
    return [source.getrandbits(source.randint(1, 64)) for count in range(many)]


def telling_words():
    singles = [1 << bit for bit in range(64)]
    greatest = [GREATEST - less for less in range(40)]
    return list(range(40)) + singles + greatest + any_words(1, 40)


# A row of this kind with any boxes, its target from 0 to the number of rows.
def any_row(source, kind, rows, word):
    boxes = [source.randrange(8) for count in range(3)]
    if kind in WAYS:
        return (kind,) + tuple(boxes)
    if kind == "set":
        return (kind, boxes[0], word)
    if kind == "move":
        return (kind, boxes[0], boxes[1])
    if kind in ("load", "store"):
        return (kind, boxes[0], boxes[1], source.choice((0, 1, -1, 5, -999, 999, source.randint(-999, 999))))
    if kind == "jump":
        return (kind, boxes[0], source.randint(0, rows))
    if kind == "go":
        return (kind, source.randint(0, rows))
    return ("fault", word)


def any_program(source, rows):
    words = any_words(source.random(), rows)
    return [any_row(source, source.choice(KINDS), rows, word) for word in words]


# Another machine with boxes and a memory that it changes in place, to hold the program's against.
WORKED = {
    "sum": lambda one, other: (one + other) % BEYOND, "less": lambda one, other: (one - other) % BEYOND,
    "times": lambda one, other: one * other % BEYOND, "share": lambda one, other: one // other,
    "rest": lambda one, other: one % other, "both": lambda one, other: one & other,
    "some": lambda one, other: one | other, "odd": lambda one, other: one ^ other,
    "up": lambda one, other: (one << other) % BEYOND if other < 64 else 0,
    "down": lambda one, other: one >> other if other < 64 else 0,
    "below": lambda one, other: int(one < other), "same": lambda one, other: int(one == other),
}


def fault_in_place(row, boxes, memory):
    if row[0] == "fault":
        return ("told", row[1])
    if row[0] in ("share", "rest") and boxes[row[3]] == 0:
        return ("nought", boxes[row[2]])
    if row[0] in ("load", "store") and boxes[row[2]] + row[3] not in range(len(memory)):
        return ("place", boxes[row[2]] + row[3])
    return None


def run_in_place(program, start, most):
    at, boxes, memory, deeds = start[0], list(start[1]), list(start[2]), []
    while len(deeds) < most and at != len(program):
        row = program[at]
        fault = fault_in_place(row, boxes, memory)
        if fault:
            deeds.append((at, None, None, None, None, fault))
            break
        box, place, word, after = None, None, None, at + 1
        if row[0] in WORKED:
            box, word = row[1], WORKED[row[0]](boxes[row[2]], boxes[row[3]])
        elif row[0] in ("set", "move"):
            box, word = row[1], row[2] if row[0] == "set" else boxes[row[2]]
        elif row[0] == "load":
            box, place = row[1], boxes[row[2]] + row[3]
            word = memory[place]
        elif row[0] == "store":
            place, word = boxes[row[2]] + row[3], boxes[row[1]]
            memory[place] = word
        elif row[0] == "go" or boxes[row[1]]:
            after = row[-1]
        if box is not None:
            boxes[box] = word
        deeds.append((at, box, place, word, after, None))
        at = after
    return (deeds, (at, tuple(boxes), tuple(memory)))


# The boxes whose words a row takes.
def wanted(row):
    if row[0] in WAYS:
        return row[2:4]
    if row[0] == "store":
        return row[1:3]
    if row[0] in ("move", "load"):
        return row[2:3]
    return row[1:2] if row[0] == "jump" else ()


# The deed of one row whose wants have these words, held being the word at every place of the memory.
def deed_alone(program, at, words, room, held):
    boxes = [0] * 8
    for box, word in zip(wanted(program[at]), words):
        boxes[box] = word
    return run_in_place(program, (at, boxes, (held,) * room), 1)[0][0]


# Rows whose places stay in the memory: room is 1, 2, 4 and so on to 64, what comes into the boxes 0 to 5 and into the
# memory is below it, box 7 keeps it, and any word comes into box 6.
def calm_row(source, kind, rows, room):
    boxes = tuple(source.randrange(6) for count in range(3))
    if kind == "set":
        return (kind, boxes[0], source.randrange(room))
    if kind in ("load", "store"):
        return (kind,) + boxes[:2] + (0,)
    if kind == "jump":
        return (kind, boxes[0], source.randint(0, rows))
    if kind == "go":
        return (kind, source.randint(rows // 3, rows))
    if kind == "rest":
        return (kind, boxes[0], source.randrange(7), 7)
    if kind == "any":
        return (source.choice(WAYS), 6, source.randrange(8), source.choice((boxes[0], 6, 7)))
    return (kind,) + boxes[:2 if kind == "move" else 3]


# A place that is known late, a store there, and a load that may pass it.
def meeting_rows(source, room):
    late = calm_row(source, source.choice(("rest", "load")), 0, room)
    between = [calm_row(source, source.choice(("move", "set", "any", "store", "load")), 0, room)
               for count in range(source.randrange(3))]
    store = ("store", source.randrange(6), late[1], 0)
    return [late, store] + between + [calm_row(source, "load", 0, room), calm_row(source, "rest", 0, room)]


def calm_program(source, rows, room):
    kinds = ("set", "move", "both", "some", "odd", "rest", "any", "load", "store") * 2 + ("jump", "jump", "go")
    # These two make a 1, which is no place in a memory of one word.
    kinds += ("below", "same") if room > 1 else ()
    program = []
    while len(program) < rows:
        alone = [calm_row(source, source.choice(kinds), rows, room)]
        program += meeting_rows(source, room) if source.random() < 0.4 else alone
    return program[:rows]


def calm_start(source, rows, room):
    at = source.choice((0, 0, 0, source.randint(0, rows)))
    boxes = tuple(source.randrange(room) for box in range(7)) + (room,)
    return (at, boxes, tuple(source.randrange(room) for place in range(room)))


def wild_row(source, rows, room):
    row = any_row(source, source.choice(KINDS[:-1] * 3 + KINDS[-1:]), rows, source.choice((0, 1, 2, 3, room, GREATEST)))
    return row[:3] + (source.randint(-2, 4),) if row[0] in ("load", "store") else row


# Of all nineteen kinds, with places in the memory and beyond it.
def wild_program(source, rows, room):
    return [wild_row(source, rows, room) for count in range(rows)]


def wild_start(source, rows, room):
    boxes = tuple(source.choice((0, 1, 2, 5, room, source.getrandbits(64))) for box in range(8))
    return (source.randint(0, rows), boxes, tuple(any_words(source.random(), room)))


def any_table(source):
    return tuple((source.choice((1, 1, 2, source.randint(1, 8))), source.choice((1, 2, 3, source.randint(1, 16))))
                 for count in range(5))


# The eight guessers in turn.
def any_guesser(source, number):
    many = source.choice((1, 16, 64))
    truths = [source.random() < 0.5 for count in range(source.randint(0, 9))]
    return (Guesser(), Always(), Last(source.random() < 0.5), Counts(many, source.randint(0, 3)),
            Paths(many, source.randint(0, 8)), Listed(truths), Turned(Last()),
            Chosen(Counts(many), Paths(many, 3), many))[number % 8]


# A guesser and a nerve: one object for both in every fifth pair.
def two_guessers(source, number):
    guesser = any_guesser(source, number)
    return (guesser, guesser if number % 5 == 0 else any_guesser(source, number // 8))


# Guesses like the one that it holds, and writes down its lessons.
class Writing(Guesser):
    def __init__(self, one):
        Guesser.__init__(self)
        self.one = one
        self.written = []

    def guess(self, at):
        return self.one.guess(at)

    def learn(self, at, came):
        self.written.append((at, came))
        self.one.learn(at, came)


# Three turns each on one bench a group, or as told; the turn at hand is 1.
def window_of(program, size=32, wide=8, table=((1, 3),) * 5):
    window = Window(program, 0, size, wide, table)
    window.now = 1
    return window


def ledger_of(boxes=(0,) * 8, memory=(0,) * 8):
    return Ledger((0, tuple(boxes), tuple(memory)), Writing(Guesser()), Writing(Guesser()))


# Puts so many rows in, one behind the other, with the words that the start gives them.
def put_in(window, boxes, many):
    slots = []
    for count in range(many):
        slot = window.enter()
        for want, box in enumerate(wanted(slot.row)):
            if slot.names[want] is None:
                window.give(slot, want, boxes[box])
        window.ahead = slot.chosen
        slots.append(slot)
    return slots

"""What the tests share: comparisons that tell kinds and refusals apart, and words, rows and programs to try."""

import random
import unittest

from aheadmill.errors import MillError

BEYOND = 18446744073709551616
GREATEST = 18446744073709551615
WAYS = ("sum", "less", "times", "share", "rest", "both", "some", "odd", "up", "down", "below", "same")
KINDS = WAYS + ("set", "move", "load", "store", "jump", "go", "fault")
BOXES = "abcdefgh"


class Case(unittest.TestCase):
    def told(self, value, expected):
        # True == 1, so the written form is compared too.
        self.assertEqual((value, repr(value)), (expected, repr(expected)))

    # The very class of the refusal, none above or beside it.
    def refused(self, kind, deed, *given):
        with self.assertRaises(MillError) as caught:
            deed(*given)
        self.assertIs(type(caught.exception), kind)
        return caught.exception


def any_words(seed, many):
    source = random.Random(seed)
    return [source.getrandbits(source.randint(1, 64)) for count in range(many)]


def telling_words():
    singles = [1 << bit for bit in range(64)]
    greatest = [GREATEST - less for less in range(40)]
    return list(range(40)) + singles + greatest + any_words(1, 40)


# A row of this kind with any boxes, its target from 0 to the number of rows.
def any_row(source, kind, rows, word):
    boxes = [source.randrange(8) for count in range(3)]
    if kind in WAYS:
        return (kind,) + tuple(boxes)
    if kind == "set":
        return (kind, boxes[0], word)
    if kind == "move":
        return (kind, boxes[0], boxes[1])
    if kind in ("load", "store"):
        return (kind, boxes[0], boxes[1], source.choice((0, 1, -1, 5, -999, 999, source.randint(-999, 999))))
    if kind == "jump":
        return (kind, boxes[0], source.randint(0, rows))
    if kind == "go":
        return (kind, source.randint(0, rows))
    return ("fault", word)


def any_program(source, rows):
    words = any_words(source.random(), rows)
    return [any_row(source, source.choice(KINDS), rows, word) for word in words]

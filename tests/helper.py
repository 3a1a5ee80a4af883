"""What the tests share: a comparison that tells kinds apart, and words to try."""

import random
import unittest

BEYOND = 18446744073709551616
GREATEST = 18446744073709551615
WAYS = ("sum", "less", "times", "share", "rest", "both", "some", "odd", "up", "down", "below", "same")


class Case(unittest.TestCase):
    def told(self, value, expected):
        # True == 1, so the written form is compared too.
        self.assertEqual((value, repr(value)), (expected, repr(expected)))


def any_words(seed, many):
    source = random.Random(seed)
    return [source.getrandbits(source.randint(1, 64)) for count in range(many)]


def telling_words():
    singles = [1 << bit for bit in range(64)]
    greatest = [GREATEST - less for less in range(40)]
    return list(range(40)) + singles + greatest + any_words(1, 40)

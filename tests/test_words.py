import unittest

from aheadmill.errors import Busy, Halted, MillError, NoLabel, NoPlace, NoRow, NoTicket, Nought, Twice
from aheadmill.words import word_of, worked
from tests.helper import BEYOND, GREATEST, WAYS, Case, any_words, telling_words


def bits_of(word):
    return bin(word)[2:].zfill(64)


def word_from(bits):
    return int(bits, 2)


def by_bits(one, other, rule):
    return word_from("".join("1" if rule(a + b) else "0" for a, b in zip(bits_of(one), bits_of(other))))


# The bits as a text are moved, so that no shift of Python's is asked.
def up_by_text(one, places):
    kept = bits_of(one)[min(places, 64):]
    return word_from((kept + "0" * 64)[:64])


def down_by_text(one, places):
    kept = bits_of(one)[:64 - min(places, 64)]
    return word_from(kept.rjust(64, "0"))


def pairs():
    words = telling_words()
    some = any_words(2, 30)
    told = [(one, other) for one in words for other in some]
    told += [(other, one) for one in words for other in some]
    told += [(one, one) for one in words]
    told += [(one, one ^ (1 << bit)) for one in some for bit in range(64)]
    told += [(one, other) for one in range(12) for other in range(12)]
    greatest = [GREATEST - less for less in range(40)]
    told += [(one, other) for one in greatest for other in greatest]
    return told


class WordOf(Case):
    def test_small_numbers(self):
        for number in range(100):
            self.told(word_of(number), number)

    def test_below_nought(self):
        self.told(word_of(-1), 18446744073709551615)
        self.told(word_of(-2), 18446744073709551614)
        self.told(word_of(-18446744073709551615), 1)
        self.told(word_of(-18446744073709551616), 0)
        self.told(word_of(-18446744073709551617), 18446744073709551615)

    def test_beyond_the_greatest(self):
        self.told(word_of(18446744073709551615), 18446744073709551615)
        self.told(word_of(18446744073709551616), 0)
        self.told(word_of(18446744073709551617), 1)
        self.told(word_of(3 * 18446744073709551616 + 12), 12)

    def test_near_multiples(self):
        for times in list(range(-50, 51)) + [10 ** 30, -(10 ** 30)]:
            for near in range(41):
                self.told(word_of(times * BEYOND + near), near)
                if near > 0:
                    self.told(word_of(times * BEYOND - near), BEYOND - near)

    def test_many_figures(self):
        for figures in range(1, 61):
            for number in (10 ** (figures - 1), 10 ** figures - 1, int("123456789" * 7) // 10 ** (63 - figures)):
                for signed in (number, -number):
                    word = word_of(signed)
                    self.assertIs(type(word), int)
                    self.assertTrue(0 <= word <= GREATEST)
                    self.assertEqual((signed - word) % BEYOND, 0)

    def test_sixty_figures_written_out(self):
        # 10 ** 59 has 2 ** 59 as a factor, so the word ends in 59 bits 0.
        self.told(word_of(10 ** 59), 5 ** 59 % 32 * 2 ** 59)
        self.told(word_of(-(10 ** 59)), BEYOND - 5 ** 59 % 32 * 2 ** 59)

    def test_a_word_is_its_own_word(self):
        for word in telling_words():
            self.told(word_of(word), word)
            self.told(word_of(word_of(word - BEYOND)), word)


class Worked(Case):
    def test_written_examples(self):
        examples = [
            ("sum", 2, 3, 5), ("sum", GREATEST, 1, 0), ("sum", GREATEST, GREATEST, GREATEST - 1),
            ("less", 5, 3, 2), ("less", 3, 5, GREATEST - 1), ("less", 0, 1, GREATEST), ("less", 0, GREATEST, 1),
            ("times", 6, 7, 42), ("times", GREATEST, GREATEST, 1), ("times", 1 << 32, 1 << 32, 0),
            ("share", 17, 5, 3), ("share", 4, 5, 0), ("share", GREATEST, 1, GREATEST), ("share", 0, 9, 0),
            ("rest", 17, 5, 2), ("rest", 4, 5, 4), ("rest", GREATEST, GREATEST, 0), ("rest", GREATEST, 10, 5),
            ("both", 12, 10, 8), ("some", 12, 10, 14), ("odd", 12, 10, 6), ("odd", GREATEST, 1, GREATEST - 1),
            ("up", 3, 2, 12), ("up", 3, 63, 1 << 63), ("up", 1, 64, 0), ("up", GREATEST, 4, GREATEST - 15),
            ("down", 12, 2, 3), ("down", GREATEST, 63, 1), ("down", GREATEST, 64, 0), ("down", 7, 1, 3),
            ("below", 2, 3, 1), ("below", 3, 3, 0), ("below", 4, 3, 0), ("below", 0, GREATEST, 1),
            ("same", 3, 3, 1), ("same", 3, 2, 0), ("same", 0, 0, 1), ("same", 2, 3, 0),
        ]
        for way, one, other, word in examples:
            with self.subTest(way=way, one=one, other=other):
                self.told(worked(way, one, other), word)

    def test_sums_are_taken_round(self):
        for one, other in pairs():
            self.told(worked("sum", one, other), (one + other) & GREATEST)
            self.told(worked("less", one, other), one - other if one >= other else one - other + BEYOND)
            self.told(worked("times", one, other), (one * other) & GREATEST)

    def test_share_and_rest_belong_together(self):
        for one, other in pairs():
            if other != 0:
                share = worked("share", one, other)
                rest = worked("rest", one, other)
                self.assertEqual((type(share), type(rest)), (int, int))
                self.assertEqual(share * other + rest, one)
                self.assertTrue(0 <= rest < other)

    def test_bit_by_bit(self):
        for one, other in pairs():
            self.told(worked("both", one, other), by_bits(one, other, lambda two: two == "11"))
            self.told(worked("some", one, other), by_bits(one, other, lambda two: "1" in two))
            self.told(worked("odd", one, other), by_bits(one, other, lambda two: two in ("01", "10")))

    def test_moves(self):
        for one in telling_words():
            for places in range(67):
                self.told(worked("up", one, places), up_by_text(one, places))
                self.told(worked("down", one, places), down_by_text(one, places))

    def test_moves_by_any_word(self):
        for one, places in pairs():
            self.told(worked("up", one, places), up_by_text(one, places))
            self.told(worked("down", one, places), down_by_text(one, places))

    def test_moves_by_the_greatest_words(self):
        for less in range(40):
            for one in (0, 1, GREATEST):
                self.told(worked("up", one, GREATEST - less), 0)
                self.told(worked("down", one, GREATEST - less), 0)

    def test_below_and_same_tell_whole_numbers(self):
        for one, other in pairs():
            self.told(worked("below", one, other), int(sorted((one, other))[0] != other))
            self.told(worked("same", one, other), int(bits_of(one) == bits_of(other)))

    def test_every_way_tells_a_word(self):
        for one, other in pairs():
            for way in WAYS:
                if way not in ("share", "rest") or other != 0:
                    word = worked(way, one, other)
                    self.assertIs(type(word), int)
                    self.assertTrue(0 <= word <= GREATEST)

    def test_a_move_somewhat_beyond_the_bounds_is_not_refused(self):
        for way in ("up", "down"):
            for places in (-1, BEYOND, BEYOND + 5):
                self.assertIs(type(worked(way, 5, places)), int)


class ByNought(Case):
    def test_refused_with_nought(self):
        for way in ("share", "rest"):
            for one in telling_words():
                with self.assertRaises(Nought):
                    worked(way, one, 0)

    def test_caught_under_each_name_above(self):
        for way in ("share", "rest"):
            for caught in (Nought, MillError, ValueError):
                with self.assertRaises(caught):
                    worked(way, 7, 0)

    def test_is_no_other_refusal(self):
        for way in ("share", "rest"):
            try:
                worked(way, 7, 0)
            except ValueError as refusal:
                self.assertNotIsInstance(refusal, (NoPlace, NoTicket, Busy, Halted, NoRow, Twice, NoLabel))
            else:
                self.fail("not refused")

    def test_the_other_ways_take_nought(self):
        for one in telling_words():
            told = {"sum": one, "less": one, "times": 0, "both": 0, "some": one, "odd": one, "up": one,
                    "down": one, "below": 0, "same": 1 if one == 0 else 0}
            for way in told:
                self.told(worked(way, one, 0), told[way])


if __name__ == "__main__":
    unittest.main()

import unittest

from aheadmill.errors import Busy, Halted, MillError, NoLabel, NoPlace, NoRow, NoTicket, Nought, Twice
from tests.helper import Case

PLAIN = (Nought, NoPlace, NoTicket, Busy, Halted)
LINED = (NoRow, Twice, NoLabel)


class Errors(Case):
    def test_mill_error_stands_under_value_error(self):
        self.assertTrue(issubclass(MillError, ValueError))
        self.assertFalse(issubclass(ValueError, MillError))

    def test_each_stands_under_mill_error(self):
        for kind in PLAIN + LINED:
            with self.subTest(kind=kind):
                self.assertTrue(issubclass(kind, MillError))
                self.assertFalse(issubclass(MillError, kind))

    def test_none_stands_under_another(self):
        for kind in PLAIN + LINED:
            for other in PLAIN + LINED:
                if kind is not other:
                    with self.subTest(kind=kind, other=other):
                        self.assertFalse(issubclass(kind, other))

    def test_each_is_caught_by_its_own_name_and_both_above(self):
        makers = [(kind, kind) for kind in PLAIN]
        makers += [(kind, lambda kind=kind: kind(3)) for kind in LINED]
        for kind, maker in makers:
            for caught in (kind, MillError, ValueError):
                with self.subTest(kind=kind, caught=caught):
                    with self.assertRaises(caught):
                        raise maker()

    def test_those_of_a_text_have_the_line(self):
        for kind in LINED:
            for line in (0, 1, 7, 19999):
                with self.subTest(kind=kind, line=line):
                    self.told(kind(line).line, line)

    def test_two_errors_keep_their_own_lines(self):
        for kind in LINED:
            one = kind(4)
            other = kind(9)
            self.told((one.line, other.line), (4, 9))


if __name__ == "__main__":
    unittest.main()

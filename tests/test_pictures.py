import copy
import random
import unittest

from aheadmill.mill import Mill
from aheadmill.pictures import picture
from tests.helper import Case

DEED = (0, 0, None, 1, 1, None)


def slip(ticket, put=None, started=None, finished=None, off=None):
    return (ticket, 0, (), None, DEED, (put, started, finished, off))


# The whole drawing from turn 0 on, put together of runs of like signs and cut to the turns asked for.
def by_runs(times, first, many):
    end = first + many
    put, started, finished, off = [end if time is None else min(time, end) for time in times]
    drawing = "." * put + "F" + "-" * end
    drawing = drawing[:started] + "W" * end
    drawing = drawing[:finished] + "=" * end
    drawing = drawing[:off] + "O" + "." * end
    return drawing[first:end]


class Pictures(Case):
    def test_all_times(self):
        self.told(picture([slip(7, 2, 4, 7, 9)], 1, 12), ["000007 .F-WWW==O..."])
        self.told(picture([slip(7, 1, 2, 3, 4)], 1, 6), ["000007 FW=O.."])
        self.told(picture([slip(0, 3, 6, 7, 12)], 1, 14), ["000000 ..F--W=====O.."])

    def test_some_times(self):
        self.told(picture([slip(1, 2, 4, 7)], 1, 10), ["000001 .F-WWW===="])
        self.told(picture([slip(1, 2, 4)], 1, 10), ["000001 .F-WWWWWWW"])
        self.told(picture([slip(1, 2)], 1, 10), ["000001 .F--------"])
        self.told(picture([slip(1)], 1, 10), ["000001 .........."])

    def test_turns_ahead_within_and_behind(self):
        whole = "...F-WWW==O....."
        for first in range(1, 14):
            for many in range(0, 17 - first):
                expected = whole[first - 1:first - 1 + many]
                self.told(picture([slip(2, 4, 6, 9, 11)], first, many), ["000002 " + expected])

    def test_no_turns(self):
        self.told(picture([slip(5, 1, 2, 3, 4), slip(6)], 1, 0), ["000005 ", "000006 "])
        self.told(picture([slip(5, 1, 2, 3, 4)], 2000, 0), ["000005 "])

    def test_no_slips(self):
        for many in (0, 1, 200):
            self.told(picture([], 1, many), [])

    def test_tickets(self):
        for figures in range(1, 20):
            for ticket in (10 ** (figures - 1), 10 ** (figures - 1) + 1, 10 ** figures - 1):
                written = "0" * (6 - figures) + str(ticket)
                self.told(picture([slip(ticket, 1)], 1, 2), [written + " F-"])
        self.told(picture([slip(0, 1)], 1, 1), ["000000 F"])

    def test_far_turns(self):
        self.told(picture([slip(3, 10 ** 18 - 3, 10 ** 18 - 2, 10 ** 18 - 1, 10 ** 18)], 1, 3), ["000003 ..."])
        self.told(picture([slip(3, 1, 2, 3, 10 ** 18)], 2000, 200), ["000003 " + "=" * 200])
        self.told(picture([slip(3, 1, 2, 3, 2100)], 2000, 200), ["000003 " + "=" * 100 + "O" + "." * 99])

    def test_order_and_nothing_else_looked_at(self):
        slips = [slip(9, 3), slip(2, 1, 2), slip(9, 3)]
        self.told(picture(slips, 1, 4), ["000009 ..F-", "000002 FWWW", "000009 ..F-"])
        other = [(9, 400, (1, None, 8), 77, None, (3, None, None, None))]
        self.told(picture(other, 1, 4), ["000009 ..F-"])

    def test_of_a_mill(self):
        mill = Mill([("set", 0, 1), ("jump", 0, 3), ("set", 1, 9), ("set", 2, 5)], (0, (0,) * 8, (0,)))
        mill.turns(4)
        self.told(picture(mill.taken() + mill.inside(), 1, 6), ["000000 FW=O..", "000001 F-W===", "000004 ...F--"])
        mill.turns(9)
        self.told(picture(mill.taken(), 1, 8), ["000000 FW=O....", "000001 F-W=O...", "000004 ...FW=O."])

    def test_any_times(self):
        source = random.Random(501)
        for count in range(3000):
            top = source.choice((8, 30, 260))
            times = sorted(source.sample(range(0, top), source.randint(0, 4)))
            times += [None] * (4 - len(times))
            first, many = source.randint(1, source.choice((3, 20, 200))), source.randint(0, source.choice((3, 30, 200)))
            expected = [str(count).rjust(6, "0") + " " + by_runs(times, first, many)]
            self.told(picture([slip(count, *times)], first, many), expected)

    def test_what_is_handed_in_stays(self):
        slips = [slip(9, 3), slip(2, 1, 2)]
        before = copy.deepcopy(slips)
        told = picture(slips, 1, 4)
        self.told(slips, before)
        told.clear()
        self.told(picture(slips, 1, 4), ["000009 ..F-", "000002 FWWW"])


if __name__ == "__main__":
    unittest.main()

import random
import unittest

from aheadmill.errors import NoTicket
from aheadmill.names import Names
from tests.helper import Case

FAR = 10 ** 18


def filled(*pairs):
    names = Names()
    for ticket, box in pairs:
        names.fill(ticket, box)
    return names


# The pairs that were filled and not thrown, as the document tells them.
def giver_among(pairs, box):
    return max([ticket for ticket, other in pairs if other == box], default=None)


class NamesCase(Case):
    def holds(self, names, pairs):
        for box in range(8):
            self.told(names.giver(box), giver_among(pairs, box))
        self.told(names.givers(tuple(range(8))), tuple(giver_among(pairs, box) for box in range(8)))

    def test_a_new_book(self):
        self.holds(Names(), [])
        self.told(Names().throw(0), 0)

    def test_fill_gives_back_none(self):
        names = Names()
        for ticket in (0, 1, 5, FAR):
            self.told(names.fill(ticket, 3), None)

    def test_each_box(self):
        for box in range(8):
            self.holds(filled((0, box)), [(0, box)])
            self.holds(filled((4, box), (9, box)), [(9, box)])

    def test_the_greatest_is_the_giver(self):
        self.holds(filled((1, 0), (2, 1), (3, 0), (7, 2), (8, 1)), [(3, 0), (8, 1), (7, 2)])

    def test_givers(self):
        names = filled((1, 0), (2, 1), (3, 0))
        self.told(names.givers(()), ())
        self.told(names.givers((0,)), (3,))
        self.told(names.givers((1, 1)), (2, 2))
        self.told(names.givers((5, 0, 5, 1, 0)), (None, 3, None, 2, 3))
        self.told(names.givers((7, 6)), (None, None))

    def test_a_ticket_that_is_not_greater(self):
        pairs = [(2, 0), (5, 1), (9, 0), (12, 7)]
        names = filled(*pairs)
        for ticket in range(13):
            for box in range(8):
                self.refused(NoTicket, names.fill, ticket, box)
                self.holds(names, pairs)
        self.told(names.fill(13, 4), None)
        self.holds(names, pairs + [(13, 4)])

    def test_a_refusal_forgets_and_counts_nothing(self):
        names = filled((5, 2))
        self.refused(NoTicket, names.fill, 5, 3)
        self.refused(NoTicket, names.fill, 4, 3)
        self.told(names.throw(0), 1)
        self.holds(names, [])

    def test_throw_tells_how_many(self):
        for ticket, many in ((0, 4), (1, 4), (2, 3), (3, 2), (4, 2), (5, 2), (6, 1), (9, 1), (10, 0), (FAR, 0)):
            names = filled((1, 0), (2, 0), (5, 1), (9, 0))
            self.told(names.throw(ticket), many)
            self.told(names.throw(ticket), 0)
            self.holds(names, [pair for pair in ((1, 0), (2, 0), (5, 1), (9, 0)) if pair[0] < ticket])

    def test_an_elder_one_is_the_giver_again(self):
        names = filled((1, 3), (4, 3), (6, 3), (8, 3))
        for ticket, elder in ((8, 6), (7, 6), (5, 4), (4, 1), (2, 1), (1, None)):
            names.throw(ticket)
            self.told(names.giver(3), elder)

    def test_a_thrown_ticket_may_come_again(self):
        names = filled((1, 0), (5, 1), (9, 2))
        names.throw(5)
        self.refused(NoTicket, names.fill, 1, 1)
        self.told(names.fill(5, 6), None)
        self.told(names.fill(9, 1), None)
        self.holds(names, [(1, 0), (5, 6), (9, 1)])
        names.throw(0)
        self.told(names.fill(0, 0), None)
        self.holds(names, [(0, 0)])

    def test_after_a_throw_a_lesser_one_may_come(self):
        names = filled((1, 0), (9, 2))
        names.throw(4)
        self.told(names.fill(2, 2), None)
        self.holds(names, [(1, 0), (2, 2)])

    def test_two_books_side_by_side(self):
        one, other = filled((5, 0)), filled((3, 0), (4, 1))
        self.holds(one, [(5, 0)])
        self.holds(other, [(3, 0), (4, 1)])
        other.throw(0)
        self.holds(one, [(5, 0)])
        one.fill(6, 1)
        self.holds(other, [])

    def test_any_deeds(self):
        source = random.Random(61)
        refusals = 0
        for count in range(150):
            names, pairs = Names(), []
            for deed in range(60):
                ticket = source.choice((source.randint(0, 40), max([0] + [old for old, box in pairs]) + 1))
                if source.random() < 0.15:
                    left = [pair for pair in pairs if pair[0] < ticket]
                    self.told(names.throw(ticket), len(pairs) - len(left))
                    pairs = left
                elif all(old < ticket for old, box in pairs):
                    box = source.randrange(8)
                    self.told(names.fill(ticket, box), None)
                    pairs.append((ticket, box))
                else:
                    self.refused(NoTicket, names.fill, ticket, source.randrange(8))
                    refusals += 1
                self.holds(names, pairs)
        self.assertGreater(refusals, 500)

    def test_many_tickets(self):
        names = Names()
        for ticket in range(20000):
            names.fill(ticket, ticket % 7)
        self.told(names.giver(7), None)
        self.told(names.giver(6), max(range(6, 20000, 7)))
        self.told(names.throw(10), 19990)
        self.told(names.givers((0, 1, 2, 3, 7)), (7, 8, 9, 3, None))


if __name__ == "__main__":
    unittest.main()

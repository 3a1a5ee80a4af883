import random
import unittest

from aheadmill.benches import Benches
from aheadmill.errors import Busy, NoTicket
from tests.helper import Case

FAR = 10 ** 18
MILLS = ((2, 1), (1, 3), (1, 6), (1, 2), (1, 1))


def any_table(source):
    return tuple((source.randint(1, 8), source.randint(1, 16)) for group in range(source.randint(1, 8)))


class BenchesCase(Case):
    def holds(self, benches, table, work):
        self.told(benches.busy(), sorted(work))
        for group, (many, long) in enumerate(table):
            self.told(benches.free(group), many - len([entry for entry in work if entry[1] == group]))

    def test_new_ones(self):
        source = random.Random(71)
        for groups in range(1, 9):
            table = tuple((source.randint(1, 8), source.randint(1, 16)) for group in range(groups))
            benches = Benches(table)
            self.holds(benches, table, [])
            self.told(benches.done(FAR), [])
            self.told(benches.throw(0), 0)

    def test_the_due_turn(self):
        for long in range(1, 17):
            for turn in (0, 1, 7, 2000, FAR):
                benches = Benches(((1, 9), (8, long)))
                self.told(benches.start(3, 1, turn), turn + long)
                self.told(benches.busy(), [(3, 1, turn + long)])

    def test_as_many_as_there_are(self):
        for many in range(1, 9):
            table = ((many, 2), (1, 1))
            benches = Benches(table)
            for ticket in range(many):
                self.told(benches.free(0), many - ticket)
                self.told(benches.start(ticket, 0, 1), 3)
            work = [(ticket, 0, 3) for ticket in range(many)]
            self.holds(benches, table, work)
            self.refused(Busy, benches.start, 99, 0, 1)
            self.holds(benches, table, work)
            self.told(benches.start(99, 1, 1), 2)
            self.holds(benches, table, work + [(99, 1, 2)])

    def test_at_work_already(self):
        benches = Benches(MILLS)
        benches.start(5, 0, 1)
        for group in range(5):
            for turn in (0, 1, 2, 50):
                self.refused(NoTicket, benches.start, 5, group, turn)
                self.holds(benches, MILLS, [(5, 0, 2)])

    def test_at_work_already_comes_ahead_of_busy(self):
        benches = Benches(((1, 4), (1, 1)))
        benches.start(5, 0, 1)
        benches.start(6, 1, 1)
        self.refused(NoTicket, benches.start, 5, 0, 1)
        self.refused(NoTicket, benches.start, 5, 1, 1)
        self.refused(NoTicket, benches.start, 6, 0, 1)
        self.refused(Busy, benches.start, 7, 0, 1)
        self.holds(benches, ((1, 4), (1, 1)), [(5, 0, 5), (6, 1, 2)])

    def test_done_by_a_turn(self):
        for turn, tickets in ((0, []), (2, []), (3, [8]), (4, [8]), (5, [2, 8]), (6, [2, 8]), (7, [1, 2, 8]),
                              (FAR, [1, 2, 8])):
            benches = Benches(((8, 2), (1, 6)))
            benches.start(8, 0, 1)
            benches.start(1, 1, 1)
            benches.start(2, 0, 3)
            self.told(benches.done(turn), tickets)
            self.told(benches.done(turn), [])
            self.told([entry[0] for entry in benches.busy()], [ticket for ticket in (1, 2, 8) if ticket not in tickets])

    def test_done_tells_rising_tickets(self):
        benches = Benches(((8, 3), (8, 1)))
        for ticket in (9, 2, 14, 7, 100, 0):
            benches.start(ticket, ticket % 2, 1)
        self.told(benches.busy(), [(0, 0, 4), (2, 0, 4), (7, 1, 2), (9, 1, 2), (14, 0, 4), (100, 0, 4)])
        self.told(benches.done(9), [0, 2, 7, 9, 14, 100])

    def test_a_bench_is_left_by_done_or_throw_alone(self):
        benches = Benches(((1, 2),))
        benches.start(1, 0, 1)
        for turn in (3, 50, FAR):
            self.told(benches.free(0), 0)
            self.refused(Busy, benches.start, 2, 0, turn)
            self.refused(NoTicket, benches.start, 1, 0, turn)
        self.told(benches.done(3), [1])
        self.told(benches.start(1, 0, 3), 5)
        self.told(benches.throw(1), 1)
        self.told(benches.start(1, 0, 3), 5)

    def test_turns_that_go_back(self):
        benches = Benches(((3, 2),))
        self.told(benches.start(1, 0, 100), 102)
        self.told(benches.start(2, 0, 5), 7)
        self.told(benches.start(3, 0, 0), 2)
        self.told(benches.done(101), [2, 3])
        self.told(benches.done(50), [])
        self.told(benches.start(4, 0, 1), 3)
        self.told(benches.done(3), [4])
        self.told(benches.busy(), [(1, 0, 102)])

    def test_throw(self):
        for ticket, left in ((0, []), (1, []), (2, [1]), (4, [1]), (5, [1, 4]), (9, [1, 4]), (10, [1, 4, 9]),
                             (FAR, [1, 4, 9])):
            benches = Benches(((2, 2), (1, 3)))
            benches.start(9, 0, 1)
            benches.start(4, 1, 1)
            benches.start(1, 0, 1)
            self.told(benches.throw(ticket), 3 - len(left))
            self.told([entry[0] for entry in benches.busy()], left)
            self.told(benches.throw(ticket), 0)

    def test_lists_that_were_told(self):
        benches = Benches(MILLS)
        benches.start(1, 0, 1)
        benches.start(2, 1, 1)
        told = benches.busy()
        told.clear()
        self.told(benches.busy(), [(1, 0, 2), (2, 1, 4)])
        kept = benches.busy()
        done = benches.done(2)
        self.told(kept, [(1, 0, 2), (2, 1, 4)])
        done.append(77)
        self.told(benches.done(2), [])
        none = benches.done(2)
        none.append(5)
        self.told(benches.done(2), [])

    def test_asking_changes_nothing(self):
        benches = Benches(MILLS)
        benches.start(1, 0, 1)
        for count in range(3):
            self.holds(benches, MILLS, [(1, 0, 2)])

    def test_two_side_by_side(self):
        one, other = Benches(MILLS), Benches(MILLS)
        one.start(1, 1, 1)
        self.holds(other, MILLS, [])
        other.start(1, 1, 5)
        one.throw(0)
        self.holds(other, MILLS, [(1, 1, 8)])

    def test_any_deeds(self):
        source = random.Random(72)
        seen = {NoTicket: 0, Busy: 0, "started": 0, "done": 0, "thrown": 0}
        for count in range(150):
            table = any_table(source)
            benches, work = Benches(table), []
            for deed in range(60):
                ticket, turn, chance = source.randint(0, 30), source.randint(0, 40), source.random()
                if chance < 0.1:
                    done = sorted(entry[0] for entry in work if entry[2] <= turn)
                    self.told(benches.done(turn), done)
                    work = [entry for entry in work if entry[2] > turn]
                    seen["done"] += len(done)
                elif chance < 0.15:
                    left = [entry for entry in work if entry[0] < ticket]
                    self.told(benches.throw(ticket), len(work) - len(left))
                    seen["thrown"] += len(work) - len(left)
                    work = left
                else:
                    group = source.randrange(len(table))
                    if ticket in [entry[0] for entry in work]:
                        self.refused(NoTicket, benches.start, ticket, group, turn)
                        seen[NoTicket] += 1
                    elif len([entry for entry in work if entry[1] == group]) == table[group][0]:
                        self.refused(Busy, benches.start, ticket, group, turn)
                        seen[Busy] += 1
                    else:
                        self.told(benches.start(ticket, group, turn), turn + table[group][1])
                        work.append((ticket, group, turn + table[group][1]))
                        seen["started"] += 1
                self.holds(benches, table, work)
        self.assertGreater(min(seen.values()), 200, seen)


if __name__ == "__main__":
    unittest.main()

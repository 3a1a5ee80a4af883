import random
import unittest

from aheadmill.errors import NoTicket
from aheadmill.shelf import Shelf
from tests.helper import BEYOND, GREATEST, Case

FAR = 10 ** 18


# Stores as (ticket, place, word) and loads as (ticket, place, giver).
def shelf_with(stores, loads=()):
    shelf = Shelf()
    for ticket, place, word in stores:
        shelf.store(ticket)
        if place is not None:
            shelf.placed(ticket, place)
        if word is not None:
            shelf.worded(ticket, word)
    for ticket, place, giver in loads:
        shelf.loaded(ticket, place, giver)
    return shelf


class ShelfCase(Case):
    def holds(self, shelf, stores, loads=()):
        self.told(shelf.stores(), sorted(stores, key=lambda entry: entry[0]))
        self.told(shelf.loads(), sorted(loads, key=lambda entry: entry[0]))

    # Refused, and all lies there as before.
    def refused_whole(self, shelf, deed, *given):
        before = (shelf.stores(), shelf.loads())
        self.refused(NoTicket, deed, *given)
        self.told((shelf.stores(), shelf.loads()), before)


class Stores(ShelfCase):
    def test_a_new_shelf(self):
        self.holds(Shelf(), [])

    def test_a_store_comes(self):
        shelf = Shelf()
        self.told(shelf.store(0), None)
        self.told(shelf.store(4), None)
        self.told(shelf.store(FAR), None)
        self.holds(shelf, [(0, None, None), (4, None, None), (FAR, None, None)])

    def test_tickets_of_stores_come_rising(self):
        shelf = shelf_with([(3, 1, 2), (7, None, None)])
        for ticket in range(8):
            self.refused_whole(shelf, shelf.store, ticket)
        self.told(shelf.store(8), None)

    def test_a_ticket_that_a_load_has(self):
        shelf = shelf_with([(3, 1, 2)], [(5, 1, 3), (9, 0, None)])
        self.refused_whole(shelf, shelf.store, 5)
        self.refused_whole(shelf, shelf.store, 9)
        self.told(shelf.store(4), None)
        self.told(shelf.store(6), None)
        self.told(shelf.store(10), None)

    def test_behind_those_that_left_a_lesser_one_may_come(self):
        shelf = shelf_with([(3, None, None), (7, None, None)])
        shelf.leave(7)
        self.told(shelf.store(5), None)
        shelf.leave(3)
        self.refused_whole(shelf, shelf.store, 4)
        shelf.throw(0)
        self.told(shelf.store(1), None)
        self.holds(shelf, [(1, None, None)])

    def test_place_and_word_in_any_order(self):
        for place in (0, 1, 63, -1, -999, GREATEST, BEYOND):
            for word in (0, 1, GREATEST):
                shelf = shelf_with([(3, None, None)])
                self.told(shelf.placed(3, place), None)
                self.holds(shelf, [(3, place, None)])
                self.told(shelf.worded(3, word), None)
                self.holds(shelf, [(3, place, word)])
                shelf = shelf_with([(3, None, None)])
                self.told(shelf.worded(3, word), None)
                self.holds(shelf, [(3, None, word)])
                self.told(shelf.placed(3, place), None)
                self.holds(shelf, [(3, place, word)])

    def test_stores_become_known_in_any_order(self):
        shelf = shelf_with([(1, None, None), (2, None, None), (3, None, None)])
        shelf.placed(3, 9)
        shelf.worded(1, 50)
        shelf.placed(1, 8)
        shelf.worded(2, 60)
        self.holds(shelf, [(1, 8, 50), (2, None, 60), (3, 9, None)])

    def test_each_once(self):
        for place, word in ((0, 0), (5, 7)):
            shelf = shelf_with([(3, place, word)])
            for again in (0, 5, 6):
                self.refused_whole(shelf, shelf.placed, 3, again)
                self.refused_whole(shelf, shelf.worded, 3, again)

    def test_no_such_store(self):
        shelf = shelf_with([(3, None, None)], [(5, 1, None)])
        for ticket in (0, 2, 4, 5, 6, FAR):
            self.refused_whole(shelf, shelf.placed, ticket, 1)
            self.refused_whole(shelf, shelf.worded, ticket, 1)
        shelf.leave(3)
        self.refused_whole(shelf, shelf.placed, 3, 1)
        self.refused_whole(shelf, shelf.worded, 3, 1)


class Look(ShelfCase):
    def looks(self, shelf, ticket, place, waiting, daring):
        before = (shelf.stores(), shelf.loads())
        self.told(shelf.look(ticket, place, False), waiting)
        self.told(shelf.look(ticket, place, True), daring)
        self.told((shelf.stores(), shelf.loads()), before)

    def test_no_stores(self):
        self.looks(Shelf(), 0, 0, (None, None), (None, None))
        self.looks(Shelf(), 9, 5, (None, None), (None, None))

    def test_takes_from_the_store(self):
        for word in (0, 1, GREATEST):
            for place in (0, 1, 63):
                self.looks(shelf_with([(3, place, word)]), 4, place, (3, word), (3, word))
        self.looks(shelf_with([(0, 0, 0)]), 1, 0, (0, 0), (0, 0))

    def test_waits_for_the_word(self):
        self.looks(shelf_with([(3, 5, None)]), 4, 5, None, None)
        self.looks(shelf_with([(2, 5, 8), (3, 5, None)]), 4, 5, None, None)

    def test_waits_for_the_place_but_where_it_dares(self):
        for word in (None, 0, 7):
            self.looks(shelf_with([(3, None, word)]), 4, 5, None, (None, None))
            self.looks(shelf_with([(1, 5, 9), (3, None, word)]), 4, 5, None, (1, 9))
            self.looks(shelf_with([(1, 5, None), (3, None, word)]), 4, 5, None, None)
            self.looks(shelf_with([(1, 6, 9), (3, None, word)]), 4, 5, None, (None, None))

    def test_the_greatest_with_the_place_ends_it(self):
        self.looks(shelf_with([(1, 5, 8), (2, 5, 9)]), 4, 5, (2, 9), (2, 9))
        self.looks(shelf_with([(1, None, None), (2, 5, 9)]), 4, 5, (2, 9), (2, 9))
        self.looks(shelf_with([(1, 5, None), (2, 5, 9)]), 4, 5, (2, 9), (2, 9))

    def test_others_are_passed_over(self):
        shelf = shelf_with([(1, 5, 8), (2, 6, 9), (3, 7, None)])
        self.looks(shelf, 4, 5, (1, 8), (1, 8))
        self.looks(shelf, 4, 6, (2, 9), (2, 9))
        self.looks(shelf, 4, 7, None, None)
        self.looks(shelf, 4, 8, (None, None), (None, None))
        self.looks(shelf, 4, -5, (None, None), (None, None))

    def test_only_lesser_tickets(self):
        shelf = shelf_with([(2, 5, 8), (4, 5, 9), (6, None, None)])
        for ticket, told in ((0, (None, None)), (2, (None, None)), (3, (2, 8)), (4, (2, 8)), (5, (4, 9)), (6, (4, 9))):
            self.looks(shelf, ticket, 5, told, told)
        self.looks(shelf, 7, 5, None, (4, 9))

    def test_loads_are_not_looked_at(self):
        shelf = shelf_with([(2, 5, 8)], [(3, 5, 2), (1, 5, None)])
        self.looks(shelf, 4, 5, (2, 8), (2, 8))
        self.looks(shelf, 2, 5, (None, None), (None, None))


class Loads(ShelfCase):
    def test_loaded(self):
        shelf = shelf_with([(3, 5, 9)])
        self.told(shelf.loaded(4, 5, 3), None)
        self.told(shelf.loaded(2, 0, None), None)
        self.told(shelf.loaded(9, 7, 1), None)
        self.told(shelf.loaded(7, -4, 0), None)
        self.holds(shelf, [(3, 5, 9)], [(2, 0, None), (4, 5, 3), (7, -4, 0), (9, 7, 1)])

    def test_a_ticket_that_lies_there(self):
        shelf = shelf_with([(3, 5, 9), (6, None, None)], [(4, 5, 3)])
        for ticket in (3, 4, 6):
            for giver in (None, 3, 0):
                self.refused_whole(shelf, shelf.loaded, ticket, 5, giver)

    def bites(self, loads, ticket, place, told):
        shelf = shelf_with([(ticket, None, None)], loads)
        self.told(shelf.placed(ticket, place), told)
        self.holds(shelf, [(ticket, place, None)], loads)

    def test_bitten(self):
        for giver in (None, 0, 3, 4):
            self.bites([(6, 2, giver)], 5, 2, 6)
            self.bites([(6, 0, giver)], 5, 0, 6)

    def test_another_place(self):
        self.bites([(6, 2, None)], 5, 1, None)
        self.bites([(6, 2, None)], 5, -2, None)

    def test_an_elder_load(self):
        self.bites([(4, 2, None)], 5, 2, None)
        self.bites([(4, 2, 1), (0, 2, None)], 5, 2, None)

    def test_a_younger_giver(self):
        self.bites([(9, 2, 5)], 5, 2, None)
        self.bites([(9, 2, 6)], 5, 2, None)
        self.bites([(9, 2, 4)], 5, 2, 9)

    def test_the_least_ticket_is_told(self):
        self.bites([(9, 2, None), (7, 2, 1), (8, 2, None)], 5, 2, 7)
        self.bites([(10, 2, None), (9, 2, None)], 5, 2, 9)
        self.bites([(6, 2, 5), (7, 3, None), (8, 2, 4), (9, 2, None)], 5, 2, 8)

    def test_a_giver_on_the_shelf_and_off_it(self):
        shelf = shelf_with([(3, 2, 9), (5, None, None)], [(6, 2, 3)])
        shelf.leave(3)
        self.told(shelf.placed(5, 2), 6)
        shelf = shelf_with([(3, None, None), (5, 2, 9)], [(6, 2, 5)])
        shelf.leave(5)
        self.told(shelf.placed(3, 2), None)

    def test_a_bitten_load_stays(self):
        shelf = shelf_with([(3, None, None), (5, None, None)], [(6, 2, None)])
        self.told(shelf.placed(5, 2), 6)
        self.told(shelf.placed(3, 2), 6)
        self.holds(shelf, [(3, 2, None), (5, 2, None)], [(6, 2, None)])

    def test_a_word_bites_nobody(self):
        shelf = shelf_with([(3, 2, None), (4, None, None)], [(6, 2, None)])
        self.told(shelf.worded(3, 2), None)
        self.told(shelf.worded(4, 2), None)

    def test_a_refused_place_bites_nobody(self):
        shelf = shelf_with([(3, 2, None)], [(6, 4, None)])
        self.refused_whole(shelf, shelf.placed, 3, 4)


class Leaving(ShelfCase):
    def test_leave(self):
        shelf = shelf_with([(1, 5, 9), (3, None, None)], [(2, 5, 1), (4, 0, None)])
        self.told(shelf.leave(3), None)
        self.holds(shelf, [(1, 5, 9)], [(2, 5, 1), (4, 0, None)])
        self.told(shelf.leave(2), None)
        self.holds(shelf, [(1, 5, 9)], [(4, 0, None)])
        self.told(shelf.leave(1), None)
        self.told(shelf.leave(4), None)
        self.holds(shelf, [])

    def test_neither_lies_there(self):
        shelf = shelf_with([(1, 5, 9)], [(3, 5, 1)])
        for ticket in (0, 2, 4, FAR):
            self.refused_whole(shelf, shelf.leave, ticket)
        shelf.leave(1)
        self.refused_whole(shelf, shelf.leave, 1)
        shelf.leave(3)
        self.refused_whole(shelf, shelf.leave, 3)

    def test_what_left_may_come_again(self):
        shelf = shelf_with([(1, 5, 9)], [(3, 5, 1)])
        shelf.leave(1)
        shelf.leave(3)
        self.told(shelf.loaded(1, 2, None), None)
        self.told(shelf.store(3), None)
        self.holds(shelf, [(3, None, None)], [(1, 2, None)])

    def test_throw(self):
        stores = [(1, 5, 9), (4, None, None), (6, None, 3)]
        loads = [(2, 5, 1), (5, 0, None), (8, 7, 6)]
        for ticket in list(range(10)) + [FAR]:
            shelf = shelf_with(stores, loads)
            kept_stores = [entry for entry in stores if entry[0] < ticket]
            kept_loads = [entry for entry in loads if entry[0] < ticket]
            self.told(shelf.throw(ticket), 6 - len(kept_stores) - len(kept_loads))
            self.holds(shelf, kept_stores, kept_loads)
            self.told(shelf.throw(ticket), 0)

    def test_lists_that_were_told(self):
        shelf = shelf_with([(1, 5, 9)], [(3, 5, 1)])
        stores, loads = shelf.stores(), shelf.loads()
        kept = (shelf.stores(), shelf.loads())
        stores.clear()
        loads.append("x")
        self.holds(shelf, [(1, 5, 9)], [(3, 5, 1)])
        shelf.throw(0)
        self.told(kept, ([(1, 5, 9)], [(3, 5, 1)]))

    def test_two_side_by_side(self):
        one, other = Shelf(), Shelf()
        one.store(1)
        one.loaded(2, 0, None)
        self.holds(other, [])
        other.loaded(1, 0, None)
        other.store(2)
        one.throw(0)
        self.holds(other, [(2, None, None)], [(1, 0, None)])


# The shelf by the words of the document, over two lists; None for a refusal is told as the class.
class ShelfByWords:
    def __init__(self):
        self.stores, self.loads = [], []

    def store(self, ticket):
        if any(entry[0] >= ticket for entry in self.stores) or any(entry[0] == ticket for entry in self.loads):
            return NoTicket
        self.stores.append([ticket, None, None])

    def known(self, ticket, part, value):
        waiting = [entry for entry in self.stores if entry[0] == ticket and entry[part] is None]
        if not waiting:
            return NoTicket
        waiting[0][part] = value
        if part == 2:
            return None
        bitten = [load[0] for load in self.loads if load[0] > ticket and load[1] == value
                  and (load[2] is None or load[2] < ticket)]
        return min(bitten) if bitten else None

    def placed(self, ticket, place):
        return self.known(ticket, 1, place)

    def worded(self, ticket, word):
        return self.known(ticket, 2, word)

    def look(self, ticket, place, dares):
        lesser = [entry for entry in self.stores if entry[0] < ticket]
        while lesser:
            entry = lesser.pop()
            if entry[1] is None:
                if not dares:
                    return None
            elif entry[1] == place:
                return None if entry[2] is None else (entry[0], entry[2])
        return (None, None)

    def loaded(self, ticket, place, giver):
        if ticket in [entry[0] for entry in self.stores + self.loads]:
            return NoTicket
        self.loads.append([ticket, place, giver])

    def leave(self, ticket):
        if ticket not in [entry[0] for entry in self.stores + self.loads]:
            return NoTicket
        self.stores = [entry for entry in self.stores if entry[0] != ticket]
        self.loads = [entry for entry in self.loads if entry[0] != ticket]

    def throw(self, ticket):
        before = len(self.stores) + len(self.loads)
        self.stores = [entry for entry in self.stores if entry[0] < ticket]
        self.loads = [entry for entry in self.loads if entry[0] < ticket]
        return before - len(self.stores) - len(self.loads)


def any_deed(source, other):
    ticket, place = source.randint(0, 14), source.randint(-1, 3)
    stored = source.choice([entry[0] for entry in other.stores] + [ticket])
    return source.choice([("store", ticket)] * 4 + [("placed", stored, place)] * 5 + [("worded", stored, place + 1)] * 4
                         + [("look", ticket, place, source.random() < 0.5)] * 5
                         + [("loaded", ticket, place, source.choice((None, source.randint(0, 14))))] * 5
                         + [("leave", ticket), ("throw", ticket + 5)])


class AnyDeeds(ShelfCase):
    def test_any_deeds(self):
        source = random.Random(81)
        seen = {}
        for count in range(400):
            shelf, other = Shelf(), ShelfByWords()
            for number in range(60):
                deed = any_deed(source, other)
                answer = getattr(other, deed[0])(*deed[1:])
                if answer is NoTicket:
                    self.refused_whole(shelf, getattr(shelf, deed[0]), *deed[1:])
                else:
                    self.told(getattr(shelf, deed[0])(*deed[1:]), answer)
                self.holds(shelf, [tuple(entry) for entry in other.stores], [tuple(entry) for entry in other.loads])
                kind = "refused" if answer is NoTicket else "none" if answer is None else "told"
                seen[deed[0], kind] = seen.get((deed[0], kind), 0) + 1
        for deed in ("store", "placed", "worded", "loaded", "leave"):
            self.assertGreater(seen[deed, "refused"], 100, seen)
            self.assertGreater(seen[deed, "none"], 100, seen)
        self.assertGreater(seen["placed", "told"], 100, seen)
        self.assertGreater(min(seen["look", "none"], seen["look", "told"]), 100, seen)


if __name__ == "__main__":
    unittest.main()

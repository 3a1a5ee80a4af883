import copy
import inspect
import random
import unittest

from aheadmill.guessers import Always, Chosen, Counts, Guesser, Last, Listed, Paths, Turned
from tests.helper import Case

# One of each, made anew at each call.
MAKERS = {
    "Guesser": Guesser,
    "Always": Always,
    "Last": Last,
    "Last True": lambda: Last(True),
    "Counts": lambda: Counts(7),
    "Counts 3": lambda: Counts(5, 3),
    "Paths": lambda: Paths(16),
    "Paths 8": lambda: Paths(64, 8),
    "Listed": lambda: Listed([True, False, False]),
    "Listed none": lambda: Listed([]),
    "Turned": lambda: Turned(Last()),
    "Chosen": lambda: Chosen(Counts(4), Paths(8)),
}
ROWS = (0, 1, 2, 15, 16, 63, 64, 399, 400)


def any_lessons(seed, many, rows=400):
    source = random.Random(seed)
    return [(source.randint(0, rows), source.random() < 0.6) for count in range(many)]


def teach(guesser, lessons):
    for at, came in lessons:
        guesser.learn(at, came)
    return guesser


class GuesserCase(Case):
    def guesses(self, guesser, rows, truths):
        self.told([guesser.guess(at) for at in rows], truths)


class Each(GuesserCase):
    def test_under_guesser(self):
        for kind in (Always, Last, Counts, Paths, Listed, Turned, Chosen):
            self.assertTrue(issubclass(kind, Guesser))
            self.assertIsNot(kind, Guesser)

    def test_names_of_arguments(self):
        names = {Last: "first", Counts: "many begin", Paths: "many long", Listed: "truths", Turned: "one",
                 Chosen: "one other many", Guesser: "", Always: ""}
        for kind in names:
            self.assertEqual(list(inspect.signature(kind).parameters), names[kind].split())
            self.assertEqual(list(inspect.signature(kind.guess).parameters)[1:], ["at"])
            self.assertEqual(list(inspect.signature(kind.learn).parameters)[1:], ["at", "came"])

    def test_guess_tells_a_truth(self):
        for name in MAKERS:
            guesser = MAKERS[name]()
            for at, came in any_lessons(1, 200):
                for row in ROWS:
                    self.assertIs(type(guesser.guess(row)), bool, name)
                guesser.learn(at, came)

    def test_learn_gives_back_none(self):
        for name in MAKERS:
            guesser = MAKERS[name]()
            for at, came in any_lessons(2, 20):
                self.assertIsNone(guesser.learn(at, came), name)

    def test_lessons_are_counted(self):
        for name in MAKERS:
            guesser = MAKERS[name]()
            for number, (at, came) in enumerate(any_lessons(3, 120)):
                self.told(guesser.lessons(), number)
                guesser.guess(at)
                self.told(guesser.lessons(), number)
                guesser.learn(at, came)
            self.told(guesser.lessons(), 120)

    def test_guessing_changes_nothing(self):
        for name in MAKERS:
            asked, left = MAKERS[name](), MAKERS[name]()
            for at, came in any_lessons(4, 150, 20):
                first = [asked.guess(row) for row in range(21)]
                for count in range(3):
                    self.told([asked.guess(row) for row in range(21)], first)
                asked.lessons()
                self.told([asked.guess(row) for row in range(21)], first)
                asked.learn(at, came)
                left.learn(at, came)
                self.told([left.guess(row) for row in range(21)], [asked.guess(row) for row in range(21)])

    def test_two_side_by_side(self):
        for name in MAKERS:
            taught, other, new = MAKERS[name](), MAKERS[name](), MAKERS[name]()
            teach(taught, any_lessons(5, 100, 20))
            self.told(other.lessons(), 0)
            self.told([other.guess(row) for row in range(21)], [new.guess(row) for row in range(21)])


class Plain(GuesserCase):
    def test_guesser_and_always(self):
        for lessons in ([], any_lessons(6, 50), [(0, True)] * 9, [(0, False)] * 9):
            self.guesses(teach(Guesser(), lessons), ROWS, [False] * len(ROWS))
            self.guesses(teach(Always(), lessons), ROWS, [True] * len(ROWS))

    def test_last_before_a_lesson(self):
        self.guesses(Last(), ROWS, [False] * len(ROWS))
        self.guesses(Last(False), ROWS, [False] * len(ROWS))
        self.guesses(Last(True), ROWS, [True] * len(ROWS))
        self.guesses(Last(first=True), ROWS, [True] * len(ROWS))

    def test_last(self):
        for first in (False, True):
            guesser, known = Last(first), {}
            for at, came in any_lessons(7, 600, 30):
                guesser.learn(at, came)
                known[at] = came
                self.guesses(guesser, range(31), [known.get(row, first) for row in range(31)])

    def test_last_at_its_own_row_alone(self):
        guesser = teach(Last(), [(400, True), (16, True), (0, True), (0, False)])
        self.guesses(guesser, (0, 16, 32, 399, 400), [False, True, False, False, True])


class CountsCase(GuesserCase):
    def test_begin(self):
        for begin, truth in ((0, False), (1, False), (2, True), (3, True)):
            self.guesses(Counts(4, begin), ROWS, [truth] * len(ROWS))
            self.guesses(Counts(4, begin=begin), ROWS, [truth] * len(ROWS))
        self.guesses(Counts(4), ROWS, [False] * len(ROWS))

    def test_left_out_it_begins_at_one(self):
        guesser = teach(Counts(1), [(0, True)])
        self.told(guesser.guess(0), True)
        guesser.learn(0, False)
        self.told(guesser.guess(0), False)

    # How many lessons it takes to change the guess tells the count.
    def test_each_step(self):
        for begin in range(4):
            for many in range(1, 7):
                up = [teach(Counts(1, begin), [(0, True)] * lessons).guess(0) for lessons in range(many)]
                self.told(up, [begin + lessons >= 2 for lessons in range(many)])
                down = [teach(Counts(1, begin), [(0, False)] * lessons).guess(0) for lessons in range(many)]
                self.told(down, [begin - lessons >= 2 for lessons in range(many)])

    def test_no_further_than_three(self):
        for many in (1, 2, 3, 4, 50):
            guesser = teach(Counts(1, 3), [(0, True)] * many)
            self.told(teach(guesser, [(0, False)]).guess(0), True)
            self.told(teach(guesser, [(0, False)]).guess(0), False)

    def test_no_further_than_nought(self):
        for many in (1, 2, 3, 4, 50):
            guesser = teach(Counts(1, 0), [(0, False)] * many)
            self.told(teach(guesser, [(0, True)]).guess(0), False)
            self.told(teach(guesser, [(0, True)]).guess(0), True)

    def test_rows_that_share_a_count(self):
        for many in range(1, 65):
            guesser = teach(Counts(many), [(400, True)])
            self.guesses(guesser, range(401), [row % many == 400 % many for row in range(401)])

    def test_any_lessons(self):
        for many in (1, 2, 3, 16, 63, 64):
            for begin in range(4):
                guesser, levels = Counts(many, begin), {}
                for at, came in any_lessons(many, 300, 130):
                    guesser.learn(at, came)
                    level = levels.get(at % many, begin) + (1 if came else -1)
                    levels[at % many] = sorted((0, level, 3))[1]
                    rows = (at, at + many, 0, 7, 400)
                    self.guesses(guesser, rows, [levels.get(row % many, begin) >= 2 for row in rows])


# The trail as a text of the truths that came, read as bits.
class PathsByText:
    def __init__(self, many, long):
        self.many, self.long, self.levels, self.came = many, long, [1] * many, "0" * 8

    def number(self, at):
        trail = int("0" + self.came[len(self.came) - self.long:], 2)
        return ((at | trail) - (at & trail)) % self.many

    def guess(self, at):
        return self.levels[self.number(at)] > 1

    def learn(self, at, came):
        number = self.number(at)
        self.levels[number] = sorted((0, self.levels[number] + (1 if came else -1), 3))[1]
        self.came += "1" if came else "0"


class PathsCase(GuesserCase):
    def test_begin(self):
        for long in range(9):
            self.guesses(Paths(16, long), ROWS, [False] * len(ROWS))
            guesser = teach(Paths(1, long), [(0, True)])
            self.guesses(guesser, ROWS, [True] * len(ROWS))

    def test_written_out(self):
        guesser = Paths(8, 2)
        guesser.learn(5, True)          # count 5 is 2, the trail 1
        self.guesses(guesser, (4, 5, 12), [True, False, True])
        guesser.learn(4, True)          # count 5 is 3, the trail 3
        self.guesses(guesser, (6, 4, 5), [True, False, False])
        guesser.learn(0, False)         # count 3 is 0, the trail 6 cut to 2
        self.guesses(guesser, (7, 6, 3, 1), [True, False, False, False])
        guesser.learn(7, False)         # count 5 is 2, the trail 4 cut to 0
        self.guesses(guesser, (5, 7, 1), [True, False, False])

    def test_length_nought_is_counts(self):
        for many in (1, 5, 64):
            guesser, counts = Paths(many, 0), Counts(many)
            for at, came in any_lessons(8, 400, 100):
                self.told([guesser.guess(row) for row in range(101)], [counts.guess(row) for row in range(101)])
                guesser.learn(at, came)
                counts.learn(at, came)

    def test_any_lessons(self):
        for long in range(9):
            for many in (1, 2, 7, 16, 63, 64):
                guesser, other = Paths(many, long), PathsByText(many, long)
                for at, came in any_lessons(9 * long + many, 300):
                    rows = (at, 0, 1, 64, 255, 256, 400)
                    self.guesses(guesser, rows, [other.guess(row) for row in rows])
                    guesser.learn(at, came)
                    other.learn(at, came)

    def test_left_out_it_is_four_long(self):
        for many in (16, 64):
            left_out, told, other = Paths(many), Paths(many, long=4), PathsByText(many, 4)
            for at, came in any_lessons(10, 400, 60):
                truths = [other.guess(row) for row in range(61)]
                self.guesses(left_out, range(61), truths)
                self.guesses(told, range(61), truths)
                for guesser in (left_out, told, other):
                    guesser.learn(at, came)


class ListedCase(GuesserCase):
    def test_none(self):
        self.guesses(teach(Listed([]), any_lessons(11, 5)), ROWS, [False] * len(ROWS))

    def test_round_and_round(self):
        source = random.Random(12)
        for length in list(range(1, 20)) + [63, 64]:
            truths = [source.random() < 0.5 for count in range(length)]
            guesser = Listed(truths)
            for number, (at, came) in enumerate(any_lessons(13, 3 * length + 2)):
                self.guesses(guesser, ROWS, [truths[number % length]] * len(ROWS))
                guesser.learn(at, came)

    def test_the_list_changed_later(self):
        truths = [True, True]
        guesser = Listed(truths)
        truths[0] = False
        truths.append(False)
        self.guesses(guesser, (0, 1), [True, True])
        truths.clear()
        self.guesses(teach(guesser, [(0, False)]), (0, 1), [True, True])
        self.guesses(teach(guesser, [(0, False)]), (0, 1), [True, True])
        empty = []
        guesser = Listed(empty)
        empty.append(True)
        self.guesses(guesser, (0, 1), [False, False])

    def test_what_is_handed_in_stays(self):
        truths = [True, False, True]
        teach(Listed(truths), any_lessons(14, 20))
        self.told(truths, [True, False, True])


class TurnedCase(GuesserCase):
    def test_the_other_truth(self):
        for name in MAKERS:
            turned, plain = Turned(MAKERS[name]()), MAKERS[name]()
            for at, came in any_lessons(15, 200, 30):
                self.guesses(turned, range(31), [not plain.guess(row) for row in range(31)])
                turned.learn(at, came)
                plain.learn(at, came)

    def test_turned_of_a_turned(self):
        held = Last()
        inner = Turned(held)
        outer = Turned(inner)
        outer.learn(3, True)
        self.told([held.guess(3), inner.guess(3), outer.guess(3)], [True, False, True])
        inner.learn(3, False)
        self.told([held.guess(3), inner.guess(3), outer.guess(3)], [False, True, False])
        held.learn(4, True)
        self.told([held.guess(4), inner.guess(4), outer.guess(4)], [True, False, True])
        self.told([held.lessons(), inner.lessons(), outer.lessons()], [3, 2, 1])

    def test_eight_deep(self):
        held = Last(True)
        guesser = held
        for depth in range(1, 9):
            guesser = Turned(guesser)
            self.told(guesser.guess(7), depth % 2 == 0)
        guesser.learn(7, False)
        self.told(held.guess(7), False)
        self.told(guesser.guess(7), False)
        self.told((held.lessons(), guesser.lessons()), (1, 1))


# Guesses as it was told and keeps the lessons, so that it shows who was asked and taught.
class Told(Guesser):
    def __init__(self, truth):
        Guesser.__init__(self)
        self.truth = truth
        self.kept = []

    def guess(self, at):
        return self.truth

    def learn(self, at, came):
        Guesser.learn(self, at, came)
        self.kept.append((at, came))


class ChosenCase(GuesserCase):
    def test_begins_with_the_first(self):
        for one in (False, True):
            for other in (False, True):
                self.guesses(Chosen(Told(one), Told(other)), ROWS, [one] * len(ROWS))

    def test_alike_the_counts_stay(self):
        one, other = Told(True), Told(True)
        guesser = Chosen(one, other, 1)
        for came in (True, False):
            teach(guesser, [(0, came)] * 9)
        other.truth = False
        self.told(guesser.guess(0), True)
        guesser.learn(0, False)
        self.told(guesser.guess(0), False)

    def test_the_second_right(self):
        for truth in (False, True):
            guesser = Chosen(Told(not truth), Told(truth), 1)
            self.told(guesser.guess(0), not truth)
            for many in range(5):
                guesser.learn(0, truth)
                self.told(guesser.guess(0), truth)
            guesser.learn(0, not truth)
            self.told(guesser.guess(0), truth)
            guesser.learn(0, not truth)
            self.told(guesser.guess(0), not truth)

    def test_the_first_right(self):
        for truth in (False, True):
            guesser = teach(Chosen(Told(truth), Told(not truth), 1), [(0, truth)] * 5)
            self.told(guesser.guess(0), truth)
            guesser.learn(0, not truth)
            self.told(guesser.guess(0), truth)
            guesser.learn(0, not truth)
            self.told(guesser.guess(0), not truth)

    def test_a_rows_own_count(self):
        for many in range(1, 65):
            guesser = teach(Chosen(Told(False), Told(True), many), [(400, True)])
            self.guesses(guesser, range(401), [row % many == 400 % many for row in range(401)])

    def test_left_out_there_are_sixteen(self):
        guesser = teach(Chosen(Told(False), Told(True)), [(5, True)])
        self.guesses(guesser, range(401), [row % 16 == 5 for row in range(401)])
        guesser = teach(Chosen(Told(False), Told(True), many=3), [(5, True)])
        self.guesses(guesser, range(401), [row % 3 == 2 for row in range(401)])

    def test_both_learn_each_lesson_once(self):
        lessons = any_lessons(16, 60)
        for one, other in ((True, True), (True, False), (False, True), (False, False)):
            first, second = Told(one), Told(other)
            guesser = teach(Chosen(first, second), lessons)
            self.told((first.kept, second.kept), (lessons, lessons))
            self.told((first.lessons(), second.lessons(), guesser.lessons()), (60, 60, 60))

    def test_both_are_asked_before_they_learn(self):
        # Behind the lesson both would guess True; ahead of it only the second does.
        guesser = Chosen(Last(False), Last(True), 1)
        guesser.learn(0, True)
        self.told(guesser.guess(1), True)

    def test_the_very_objects_are_used(self):
        first, second = Last(), Last()
        guesser = Chosen(first, second, 1)
        first.learn(3, True)
        self.told(guesser.guess(3), True)
        self.told((first.lessons(), second.lessons(), guesser.lessons()), (1, 0, 0))
        guesser.learn(3, False)
        self.told((first.guess(3), second.guess(3)), (False, False))
        self.told((first.lessons(), second.lessons(), guesser.lessons()), (2, 1, 1))
        teach(guesser, [(4, False)])
        second.learn(4, True)
        teach(Turned(first), [(4, True)])
        self.told((first.lessons(), second.lessons(), guesser.lessons()), (4, 3, 2))

    def test_taught_by_itself_beside_it(self):
        held = Counts(4)
        guesser = Turned(held)
        held.learn(1, True)
        self.told((guesser.guess(1), guesser.lessons(), held.lessons()), (False, 0, 1))
        listed = Listed([True, False])
        guesser = Turned(listed)
        listed.learn(0, True)
        self.told((guesser.guess(1), guesser.lessons(), listed.lessons()), (True, 0, 1))
        guesser.learn(0, True)
        self.told((guesser.guess(1), guesser.lessons(), listed.lessons()), (False, 1, 2))


# The same guessers by the words of the document, over plain lists of the lessons learned so far.
def by_words(tree, lessons, at):
    kind = tree[0]
    if kind == "last":
        return ([came for row, came in lessons if row == at] or [tree[1]])[-1]
    if kind == "listed":
        return tree[1][len(lessons) % len(tree[1])]
    if kind == "turned":
        return not by_words(tree[1], lessons, at)
    level = 1
    for number, (row, came) in enumerate(lessons):
        one = by_words(tree[1], lessons[:number], row)
        other = by_words(tree[2], lessons[:number], row)
        if one != other and row % tree[3] == at % tree[3]:
            level = min(level + 1, 3) if other == came else max(level - 1, 0)
    return by_words(tree[2 if level >= 2 else 1], lessons, at)


def built(tree):
    if tree[0] == "last":
        return Last(tree[1])
    if tree[0] == "listed":
        return Listed(list(tree[1]))
    if tree[0] == "turned":
        return Turned(built(tree[1]))
    return Chosen(built(tree[1]), built(tree[2]), tree[3])


def any_tree(source, depth):
    kind = source.choice(("last", "listed")) if depth == 0 else source.choice(("turned", "chosen", "chosen"))
    if kind == "last":
        return (kind, source.random() < 0.5)
    if kind == "listed":
        return (kind, tuple(source.random() < 0.5 for count in range(source.randint(1, 5))))
    if kind == "turned":
        return (kind, any_tree(source, depth - 1))
    return (kind, any_tree(source, depth - 1), any_tree(source, depth - 1), source.randint(1, 4))


class Nested(GuesserCase):
    def test_any_trees(self):
        source = random.Random(17)
        for count in range(60):
            tree = any_tree(source, source.randint(0, 2))
            guesser, lessons = built(tree), []
            for at, came in any_lessons(count, 12, 4):
                self.guesses(guesser, range(5), [by_words(tree, lessons, row) for row in range(5)])
                guesser.learn(at, came)
                lessons.append((at, came))

    def test_eight_deep(self):
        # On each floor the second is right always, so the counts lead down to the one that is.
        leaves = [Told(False) for floor in range(8)]
        guesser = Always()
        for leaf in leaves:
            guesser = Chosen(leaf, guesser, 1)
        self.told(guesser.guess(9), False)
        lessons = [(9, True)] * 8
        teach(guesser, lessons)
        self.told(guesser.guess(9), True)
        for leaf in leaves:
            self.told((leaf.kept, leaf.lessons()), (lessons, 8))

    def test_a_whole_tree_of_eight_floors(self):
        source = random.Random(18)
        guesser = built(any_tree(source, 8))
        lessons = any_lessons(19, 20, 5)
        teach(guesser, lessons)
        self.told(guesser.lessons(), 20)
        before = copy.deepcopy([guesser.guess(row) for row in range(6)])
        self.guesses(guesser, range(6), before)


if __name__ == "__main__":
    unittest.main()

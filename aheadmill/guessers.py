"""Guessers: each guesses a truth for a row's number and learns, lesson by lesson, which truth came."""

GREATEST_COUNT = 3


# So many counts from 0 to 3; any whole number tells one of them by its rest.
class Tally:
    def __init__(self, many, begin):
        self.levels = [begin] * many

    def likely(self, number):
        return self.levels[number % len(self.levels)] in (2, 3)

    def move(self, number, up):
        place = number % len(self.levels)
        level = self.levels[place]
        self.levels[place] = min(level + 1, GREATEST_COUNT) if up else max(level - 1, 0)


# What a kind of guesser makes of a lesson stands in its heed; learn counts the lesson for all of them.
class Guesser:
    def __init__(self):
        self.learned = 0

    def guess(self, at):
        return False

    def heed(self, at, came):
        pass

    def learn(self, at, came):
        self.heed(at, came)
        self.learned += 1

    def lessons(self):
        return self.learned


class Always(Guesser):
    def guess(self, at):
        return True


class Last(Guesser):
    def __init__(self, first=False):
        Guesser.__init__(self)
        self.first = first
        self.lately = {}

    def guess(self, at):
        return self.lately.get(at, self.first)

    def heed(self, at, came):
        self.lately[at] = came


class Counts(Guesser):
    def __init__(self, many, begin=1):
        Guesser.__init__(self)
        self.tally = Tally(many, begin)

    def guess(self, at):
        return self.tally.likely(at)

    def heed(self, at, came):
        self.tally.move(at, came)


class Paths(Guesser):
    def __init__(self, many, long=4):
        Guesser.__init__(self)
        self.tally = Tally(many, 1)
        self.length = long
        self.trail = 0

    def guess(self, at):
        return self.tally.likely(at ^ self.trail)

    def heed(self, at, came):
        self.tally.move(at ^ self.trail, came)
        longer = self.trail * 2 + (1 if came else 0)
        self.trail = longer % (1 << self.length)


class Listed(Guesser):
    def __init__(self, truths):
        Guesser.__init__(self)
        self.truths = list(truths)

    def guess(self, at):
        if self.truths == []:
            return False
        return self.truths[self.learned % len(self.truths)]


class Turned(Guesser):
    def __init__(self, one):
        Guesser.__init__(self)
        self.one = one

    def guess(self, at):
        return not self.one.guess(at)

    def heed(self, at, came):
        self.one.learn(at, came)


class Chosen(Guesser):
    def __init__(self, one, other, many=16):
        Guesser.__init__(self)
        self.one = one
        self.other = other
        self.tally = Tally(many, 1)

    def guess(self, at):
        if self.tally.likely(at):
            return self.other.guess(at)
        return self.one.guess(at)

    # Both are asked before either learns: the lesson may change what they guess.
    def heed(self, at, came):
        second = self.other.guess(at)
        if self.one.guess(at) != second:
            self.tally.move(at, second == came)
        self.one.learn(at, came)
        self.other.learn(at, came)

"""The refusals: one class for each, all under MillError."""


# Any refusal; under ValueError, so that a caller who knows no class of this file can take it too.
class MillError(ValueError):
    pass


# A word shared by 0.
class Nought(MillError):
    pass


# A place that isn't in the memory.
class NoPlace(MillError):
    pass


# A ticket that can't come now, or that isn't there.
class NoTicket(MillError):
    pass


# No bench of the group is free.
class Busy(MillError):
    pass


# The mill has halted.
class Halted(MillError):
    pass


# A line of a text that is no row.
class NoRow(MillError):
    def __init__(self, line):
        self.line = line


# A label that a line above has told already.
class Twice(MillError):
    def __init__(self, line):
        self.line = line


# A target that the text doesn't have.
class NoLabel(MillError):
    def __init__(self, line):
        self.line = line

"""Checks: slips looked at against a program and a start, one behind the other."""

from aheadmill.plain import behind, does
from aheadmill.rows import wants


class Trace:
    # What the slips looked at so far leave: fillers has for each box the last that filled it, storers for each place
    # the ticket of the last that stored there. They were all right, so state is the plain machine's stand.
    def __init__(self, stand):
        self.state = stand
        self.fillers = {}
        self.storers = {}
        self.latest = None

    def follow(self, slip):
        deed = slip[4]
        if deed[1] is not None:
            self.fillers[deed[1]] = slip
        elif deed[2] is not None:
            self.storers[deed[2]] = slip[0]
        self.state = behind(self.state, deed)
        self.latest = slip


def wrong(program, stand, slips):
    trace = Trace(stand)
    for number, slip in enumerate(slips):
        if not is_right(program, trace, slip):
            return number
        trace.follow(slip)
    return None


def is_right(program, trace, slip):
    if slip[1] != trace.state[0] or slip[1] >= len(program):
        return False
    if not stands_behind(trace.latest, slip) or not times_rise(slip[5]):
        return False
    if slip[4] != does(program, trace.state) or slip[3] != giver_of(trace, slip[4]):
        return False
    return names_are_right(trace, slip, wants(program[slip[1]]))


def stands_behind(latest, slip):
    if latest is None:
        return slip[0] >= 0 and slip[5][0] >= 1
    if latest[4][5] is not None or slip[0] <= latest[0]:
        return False
    return slip[5][0] >= latest[5][0] and slip[5][3] >= latest[5][3]


def times_rise(times):
    return times[0] < times[1] < times[2] < times[3]


# Only a load has a deed with a box and a place, and only where its place is in the memory.
def giver_of(trace, deed):
    if deed[1] is None or deed[2] is None:
        return None
    return trace.storers.get(deed[2])


def names_are_right(trace, slip, boxes):
    fillers = [trace.fillers.get(box) for box in boxes]
    if slip[2] != tuple([None if filler is None else filler[0] for filler in fillers]):
        return False
    return all([filler is None or slip[5][1] >= filler[5][2] for filler in fillers])

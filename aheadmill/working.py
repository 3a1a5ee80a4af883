"""Working: the second and the third part of a turn, finishing and starting."""

from aheadmill.plain import in_memory
from aheadmill.rows import group_of, made


def finish_all(window, ledger):
    for ticket in window.benches.done(window.now):
        slot = window.slot_of(ticket)
        # An older one may have thrown it out in this part.
        if slot is not None:
            finish(window, slot, len(ledger.state[2]))


def finish(window, slot, room):
    slot.deed = made(slot.row, slot.at, tuple(slot.words), room, slot.held)
    slot.finished = window.now
    if slot.deed[1] is not None:
        give_word(window, slot.ticket, slot.deed[3])
    if slot.row[0] == "jump" and slot.deed[4] != slot.chosen:
        window.ahead = slot.deed[4]
        window.throw(slot.ticket + 1)


# Walked by numbers: a store whose place becomes known may throw out slots, all of them behind it.
def give_word(window, ticket, word):
    number = 0
    while number < len(window.slots):
        slot = window.slots[number]
        for want in range(len(slot.names)):
            if slot.names[want] == ticket:
                window.give(slot, want, word)
        number += 1


def start_all(window, ledger):
    for slot in window.slots:
        if slot.put < window.now and slot.started is None and slot.ready():
            start(window, ledger, slot)


def start(window, ledger, slot):
    group = group_of(slot.row)
    if window.benches.free(group) > 0 and take_word(window, ledger, slot):
        window.benches.start(slot.ticket, group, window.now)
        slot.started = window.now


# False where a load has to wait for its word. One whose place isn't in the memory takes none: it will be a fault.
def take_word(window, ledger, slot):
    if slot.row[0] != "load" or not in_memory(slot.spot(), ledger.state[2]):
        return True
    place = slot.spot()
    found = window.shelf.look(slot.ticket, place, slot.dares)
    if found is None:
        return False
    if found[0] is None:
        slot.source = ledger.storers.get(place)
        slot.held = ledger.state[2][place]
    else:
        slot.source = found[0]
        slot.held = found[1]
    window.shelf.loaded(slot.ticket, place, slot.source)
    return True

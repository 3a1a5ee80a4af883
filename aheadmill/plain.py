"""The plain machine: it runs the rows of a program one at a time."""

from aheadmill.errors import NoPlace
from aheadmill.rows import made, place_of, wants


def in_memory(place, memory):
    return 0 <= place < len(memory)


# The word that a load takes, None of another row and where the place isn't in the memory.
def held_for(row, words, memory):
    if row[0] != "load":
        return None
    place = place_of(row, words)
    return memory[place] if in_memory(place, memory) else None


def replaced(words, number, word):
    return words[:number] + (word,) + words[number + 1:]


def does(program, stand):
    at = stand[0]
    if at >= len(program):
        return None
    row = program[at]
    memory = stand[2]
    words = tuple([stand[1][box] for box in wants(row)])
    return made(row, at, words, len(memory), held_for(row, words, memory))


def behind(stand, deed):
    box = deed[1]
    place = deed[2]
    word = deed[3]
    after = deed[4]
    if deed[5] is not None:
        return stand
    # A load's deed has a box and a place: it fills the box alone.
    if box is not None:
        return (after, replaced(stand[1], box, word), stand[2])
    if place is not None:
        return (after, stand[1], replaced(stand[2], place, word))
    return (after, stand[1], stand[2])


def run(program, stand, most):
    deeds = []
    now = stand
    while len(deeds) < most:
        deed = does(program, now)
        if deed is None:
            break
        deeds.append(deed)
        if deed[5] is not None:
            break
        now = behind(now, deed)
    return (deeds, now)


def poked(stand, place, word):
    if not in_memory(place, stand[2]):
        raise NoPlace("the place isn't in the memory")
    return (stand[0], stand[1], replaced(stand[2], place, word))

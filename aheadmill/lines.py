"""A single line of a program's text: the row or the label that it tells, and how a part of a row is written."""

LETTERS = "abcdefghijklmnopqrstuvwxyz"
FIGURES = "0123456789"
BOXES = ("a", "b", "c", "d", "e", "f", "g", "h")
LONGEST_LABEL = 8
GREATEST_WORD = 18446744073709551615
GREATEST_STEP = 999
GREATEST_TARGET = 400

# What stands behind the kind of a row, part by part.
FORMS = {
    "set": ("box", "word"),
    "move": ("box", "box"),
    "sum": ("box", "box", "box"),
    "less": ("box", "box", "box"),
    "times": ("box", "box", "box"),
    "share": ("box", "box", "box"),
    "rest": ("box", "box", "box"),
    "both": ("box", "box", "box"),
    "some": ("box", "box", "box"),
    "odd": ("box", "box", "box"),
    "up": ("box", "box", "box"),
    "down": ("box", "box", "box"),
    "below": ("box", "box", "box"),
    "same": ("box", "box", "box"),
    "load": ("box", "box", "step"),
    "store": ("box", "box", "step"),
    "jump": ("box", "target"),
    "go": ("target",),
    "fault": ("word",),
}


# A line without its remark and without blanks at its ends.
def bare(line):
    return line.partition("#")[0].strip(" ")


def words_in(line):
    return [word for word in bare(line).split(" ") if word != ""]


def made_of(text, signs):
    return text != "" and all([sign in signs for sign in text])


def is_label(word):
    return made_of(word, LETTERS) and len(word) <= LONGEST_LABEL


# Figures are counted before they are read: Python refuses to read thousands of them.
def number_in(figures, greatest):
    if not made_of(figures, FIGURES) or len(figures) > len(str(greatest)):
        return None
    if figures != "0" and figures.startswith("0"):
        return None
    number = int(figures)
    return number if number <= greatest else None


def step_in(word):
    if not word.startswith("-"):
        return number_in(word, GREATEST_STEP)
    number = number_in(word[1:], GREATEST_STEP)
    return None if number is None or number == 0 else -number


def target_in(word):
    return word if is_label(word) else number_in(word, GREATEST_TARGET)


def box_in(word):
    return BOXES.index(word) if word in BOXES else None


# A part of a row, None where the word doesn't tell one of that form.
def part_in(form, word):
    if form == "box":
        return box_in(word)
    if form == "step":
        return step_in(word)
    if form == "target":
        return target_in(word)
    return number_in(word, GREATEST_WORD)


def part_shown(form, part):
    return BOXES[part] if form == "box" else str(part)


# The row that a line tells, its target a text where it is a label; None where it tells no row.
def row_in(line):
    words = words_in(line)
    if words == [] or words[0] not in FORMS:
        return None
    forms = FORMS[words[0]]
    if len(words) != len(forms) + 1:
        return None
    parts = [part_in(form, word) for form, word in zip(forms, words[1:])]
    if any([part is None for part in parts]):
        return None
    return (words[0],) + tuple(parts)


# The label that a line tells, None where it tells none.
def label_in(line):
    left = bare(line)
    if left.endswith(":") and is_label(left[:-1]):
        return left[:-1]
    return None

"""Texts of programs: rows and programs written, and read again."""

from aheadmill.errors import NoLabel, NoRow, Twice
from aheadmill.lines import FORMS, bare, label_in, part_shown, row_in


def show_row(row):
    parts = [part_shown(form, part) for form, part in zip(FORMS[row[0]], row[1:])]
    return " ".join([row[0]] + parts)


def shown(program):
    return "\n".join([show_row(row) for row in program])


def read_row(line):
    row = row_in(line)
    if row is None:
        raise NoRow(0)
    return row


# Each line that isn't passed over as (number, label, row), one of the last two None.
def told_lines(text):
    told = []
    for number, line in enumerate(text.split("\n")):
        if bare(line) != "":
            label = label_in(line)
            row = row_in(line)
            if label is None and row is None:
                raise NoRow(number)
            told.append((number, label, row))
    return told


def labels_in(told):
    labels = {}
    above = 0
    for number, label, row in told:
        if label is None:
            above += 1
        elif label in labels:
            raise Twice(number)
        else:
            labels[label] = above
    return labels


# A row with a number as its target, where it has a target; number is that of its line, many that of the rows.
def aimed(row, number, labels, many):
    if row[0] != "jump" and row[0] != "go":
        return row
    target = row[-1]
    if isinstance(target, str):
        if target not in labels:
            raise NoLabel(number)
        return row[:-1] + (labels[target],)
    if target > many:
        raise NoLabel(number)
    return row


# All lines are looked at before any label is, and all labels before any target:
# that is the order in which a text is refused.
def read(text):
    told = told_lines(text)
    labels = labels_in(told)
    rows = [(number, row) for number, label, row in told if label is None]
    return [aimed(row, number, labels, len(rows)) for number, row in rows]

"""Pictures: slips drawn turn by turn."""


def picture(slips, first, many):
    return [drawn(slip, first, many) for slip in slips]


def drawn(slip, first, many):
    signs = [sign_at(slip[5], turn) for turn in range(first, first + many)]
    return str(slip[0]).zfill(6) + " " + "".join(signs)


def has_come(time, turn):
    return time is not None and time <= turn


# From the last time to the first: the latest that has come tells the sign.
def sign_at(times, turn):
    if has_come(times[3], turn):
        return "O" if times[3] == turn else "."
    if has_come(times[2], turn):
        return "="
    if has_come(times[1], turn):
        return "W"
    if has_come(times[0], turn):
        return "F" if times[0] == turn else "-"
    return "."

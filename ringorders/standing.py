"""The order that stands on a bell."""


def standing(log, line, minute, none=None):
    """Tell the order that stands on a bell at a minute; where none stands, what is handed in as none."""
    order = none
    # The minutes of a log never fall, so the last row that fits is the latest one.
    for when, where, what in log:
        if where == line and when <= minute:
            order = what
    return order


def steps(log, line):
    """Tell (minute, order) for each minute at which what stands on a bell becomes another order."""
    told = []
    stood = None
    for minute in sorted({row[0] for row in log if row[1] == line}):
        order = standing(log, line, minute)
        if order != stood:
            told.append((minute, order))
        stood = order
    return told

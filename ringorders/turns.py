"""Tables of turns, and the turns that an engine makes by a log."""

from ringorders.standing import standing
from ringorders.things import FULL_AHEAD, FULL_ASTERN, is_whole

MOST_TURNS = 999


def is_table(thing):
    """Tell whether a thing is a table: the turns a minute for each order, from full astern to full ahead."""
    if not isinstance(thing, tuple) or len(thing) != FULL_AHEAD - FULL_ASTERN + 1:
        return False
    return all([is_whole(turned) and -MOST_TURNS <= turned <= MOST_TURNS for turned in thing])


def turns(log, engine, table, first, last, idle=0):
    """Tell the turns of an engine, added up, of the minutes from first to below last."""
    total = 0
    for start, end in unchanged(log, first, last):
        total += (end - start) * turns_at(log, engine, table, start, idle)
    return total


def turns_at(log, engine, table, minute, idle=0):
    """Tell the turns of an engine in the minute that begins at one; idle ones where no order stands."""
    order = standing(log, engine, minute)
    return idle if order is None else turns_by(table, order)


def turns_by(table, order):
    """Tell the turns a minute by an order."""
    return table[order - FULL_ASTERN]


def unchanged(log, first, last):
    """Tell (from, to), one behind the other from first to last: from one row's minute to below that of another one."""
    marks = [first] + sorted({row[0] for row in log if first < row[0] < last}) + [last]
    return list(zip(marks, marks[1:]))

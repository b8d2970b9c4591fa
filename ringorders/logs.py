"""Logs: tuples of rows, none with a lesser minute than the one ahead."""

from ringorders.errors import NoLog
from ringorders.rows import makes_row, row_of
from ringorders.things import LAST_MINUTE

MOST_ROWS = 40


def is_log(thing):
    """Tell whether a thing is a log."""
    if not isinstance(thing, tuple) or wrong_at(thing) is not None:
        return False
    return all([isinstance(row, tuple) for row in thing])


def log_of(rows):
    """Make a log of a list or a tuple of lists or tuples."""
    if not isinstance(rows, (list, tuple)):
        raise NoLog(None)
    at = wrong_at(rows)
    if at is not None:
        raise NoLog(at)
    return tuple([row_of(row) for row in rows])


def wrong_at(rows):
    """Tell the number of the first of some things that can't be the next row of a log, or None."""
    latest = 0
    for number, row in enumerate(rows):
        if number >= MOST_ROWS or not makes_row(row) or row[0] < latest:
            return number
        latest = row[0]
    return None


def rows_on(log, line):
    """Tell the numbers of a log's rows on a line."""
    return [number for number, row in enumerate(log) if row[1] == line]


def rows_between(log, first=0, last=LAST_MINUTE):
    """Tell the numbers of a log's rows from a first to a last minute, both of them in."""
    return [number for number, row in enumerate(log) if first <= row[0] <= last]

"""Logs as objects."""

from ringorders.errors import Full, NoLog
from ringorders.logs import MOST_ROWS, log_of
from ringorders.rows import row_of
from ringorders.texts import show_log
from ringorders.things import is_minute


class Log:
    """A log that never changes; others are made of it."""

    def __init__(self, rows):
        self.held = log_of(rows)

    def __len__(self):
        return len(self.held)

    def __eq__(self, other):
        return isinstance(other, Log) and self.held == other.held

    def __str__(self):
        return str(show_log(self.held))

    def __repr__(self):
        return f"Log({len(self.held)})"

    def rows(self):
        """Tell the log."""
        return self.held

    def with_row(self, row):
        """Tell a Log with a row more, behind all those whose minute isn't greater."""
        row = row_of(row)
        if len(self.held) >= MOST_ROWS:
            raise Full("there are as many rows as can be")
        ahead = [other for other in self.held if other[0] <= row[0]]
        return Log(ahead + [row] + list(self.held[len(ahead):]))

    def later(self, many):
        """Tell a Log with all minutes so many more."""
        rows = [(minute + many, line, what) for minute, line, what in self.held]
        if not all([is_minute(row[0]) for row in rows]):
            raise NoLog(None)
        return Log(rows)

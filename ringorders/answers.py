"""What became of the rows on an engine's bell, and the rows on its dial that answer wrongly, by one log."""

from ringorders.logs import rows_on
from ringorders.rows import dial_of


def answers(log, engine):
    """Tell (number, word, number of the row that answers it or takes it back) of each row on a bell."""
    return [what_became(log, engine, number) for number in rows_on(log, engine)]


def what_became(log, engine, number):
    """Tell (number, word, number or None) of one row on an engine's bell."""
    dial = dial_of(engine)
    order = log[number][2]
    for later in range(number + 1, len(log)):
        _, line, what = log[later]
        if line == engine:
            return (number, "taken", later)
        if line == dial and what == order:
            return (number, "answered", later)
    return (number, "open", None)


def wrong_answers(log, engine):
    """Tell the numbers of the rows on an engine's dial that don't answer what was rung last."""
    dial = dial_of(engine)
    rung = None
    wrong = []
    for number, row in enumerate(log):
        if row[1] == engine:
            rung = row[2]
        elif row[1] == dial and row[2] != rung:
            wrong.append(number)
    return wrong

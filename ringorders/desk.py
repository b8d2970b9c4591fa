"""A desk: lines told to it, and its answers."""

from ringorders.apart import apart
from ringorders.courses import course
from ringorders.effects import played
from ringorders.errors import NoNumber
from ringorders.lines import read_told
from ringorders.standing import standing
from ringorders.texts import show_log, show_order
from ringorders.turns import turns
from ringorders.watch import Watch

LAST_APART = 100000
GREATEST_STEP = 12


def answer_tell(desk, house, number, minute, line, what):
    """Tell a row to the watch."""
    return ok_with(desk.watch.tell(house, number, (minute, line, what)))


def answer_drop(desk, house, number):
    """Drop a row of the watch."""
    return ok_with(desk.watch.drop(house, number))


def answer_back(desk):
    """Take the last deed back."""
    return ok_with(desk.watch.back())


def answer_again(desk):
    """Do again what was taken back last."""
    return ok_with(desk.watch.again())


def answer_log(desk, house):
    """Write a log, without the last line end."""
    log = desk.watch.log(house)
    return show_log(log)[:-1] if log else "-"


def answer_best(desk):
    """Write the best difference and its pairs."""
    d, joined = desk.watch.best()
    return words_of([d] + [f"{b}:{r}" for b, r in joined])


def answer_lot(desk):
    """Write the lot."""
    return str(desk.watch.lot())


def answer_ring(desk, number):
    """Write what became of a ring."""
    return words_of(["-" if part is None else part for part in desk.watch.ask(number)])


def answer_forget(desk, number):
    """Forget an asked ring."""
    desk.watch.forget(number)
    return "ok"


def answer_stands(desk, house, engine, minute):
    """Write the order that stands on an engine by a log."""
    order = standing(desk.watch.log(house), engine, minute)
    return "-" if order is None else show_order(order)


def answer_apart(desk, engine, first, last):
    """Write the stretches in which the orders are apart by the best difference."""
    if not 0 <= first <= last <= LAST_APART:
        raise NoNumber("these are no minutes from which to which orders are apart")
    d, _ = desk.watch.best()
    stretches = apart(desk.watch.log("bridge"), desk.watch.log("room"), engine, d, first, last)
    return words_of([f"{start}:{end}" for start, end in stretches])


def answer_turns(desk, house, engine, first, last):
    """Write the turns of an engine by a log."""
    refuse_no_minutes(first, last)
    return str(turns(desk.watch.log(house), engine, desk.table, first, last))


def answer_place(desk, house, x, y, swing, first, last):
    """Write where a ship is by a log."""
    refuse_no_minutes(first, last)
    d = 0
    if house == "room":
        d, _ = desk.watch.best()
    return words_of(course(desk.watch.log(house), desk.table, (x, y, swing), first, last, d, desk.step))


def answer_play(desk, x, y, swing, card):
    """Write where a ship is behind a card, and the orders that stand then."""
    if desk.step > GREATEST_STEP:
        raise NoNumber("with a step so great no card is played")
    ship, orders = played(card, desk.table, (0, 0), (x, y, swing), desk.step)
    return words_of(list(ship) + [show_order(order) for order in orders])


def refuse_no_minutes(first, last):
    """Refuse what are no minutes from a first one to a last one, not less."""
    if first < 0 or last < first:
        raise NoNumber("these are no minutes from a first to a last one")


def ok_with(numbers):
    """Write that a deed was done, and the asked rings that it tells."""
    return words_of(["ok"] + numbers)


def words_of(things):
    """Write some things with blanks between, or a sign that there are none."""
    return " ".join([str(thing) for thing in things]) if things else "-"


ANSWERS = {
    "tell": answer_tell,
    "drop": answer_drop,
    "back": answer_back,
    "again": answer_again,
    "log": answer_log,
    "best": answer_best,
    "lot": answer_lot,
    "ring": answer_ring,
    "forget": answer_forget,
    "stands": answer_stands,
    "apart": answer_apart,
    "turns": answer_turns,
    "place": answer_place,
    "play": answer_play,
}


class Desk:
    """A watch, a table and a step, and lines that are told to them."""

    def __init__(self, table, lag=0, low=0, high=0, step=45):
        self.watch = Watch(lag, low, high)
        self.table = table
        self.step = step

    def say(self, line):
        """Answer a line."""
        word, values = read_told(line)
        answer = ANSWERS[word]
        return answer(self, *values)

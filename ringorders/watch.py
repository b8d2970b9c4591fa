"""A watch: rows of both logs, told early or late by houses and numbers, and what is told of those kept."""

from ringorders.counts import best
from ringorders.errors import Full, Late, NoNumber, NoStretch, Nothing, Taken, Unknown
from ringorders.logs import MOST_ROWS
from ringorders.lots import lot
from ringorders.rings import ring_of
from ringorders.rows import is_bell, is_house, row_of
from ringorders.things import is_whole

LAST_NUMBER = 999
LONGEST_LAG = 60
MOST_APART = 1440
LONGEST_STRETCH = 240


class Watch:
    """The rows kept of both logs, the asked rings, and the deeds that may be taken back or done again."""

    def __init__(self, lag=0, low=0, high=0):
        if not is_lag(lag) or not is_stretch(low, high):
            raise NoStretch("this is no lag with a stretch of differences")
        self.lag = lag
        self.low = low
        self.high = high
        self.kept = {}
        self.followed = []
        # A deed is a tuple (house, number, row ahead of it, row behind it), None where no row is kept.
        self.done = []
        self.undone = []

    def __len__(self):
        return len(self.kept)

    def __eq__(self, other):
        return (isinstance(other, Watch) and self.lag == other.lag and self.low == other.low
                and self.high == other.high and self.kept == other.kept)

    def tell(self, house, number, row):
        """Keep a row under a number of a house; tell the asked rings whose answer is another one by it."""
        refuse_no_house(house)
        if not is_number(number):
            raise NoNumber("this is no number of a row")
        row = row_of(row)
        self.refuse_misfit(house, number, row)
        return self.do(house, number, row)

    def drop(self, house, number):
        """Keep a row no longer; tell the asked rings whose answer is another one by it."""
        refuse_no_house(house)
        if not is_number(number) or (house, number) not in self.kept:
            raise NoNumber("no row of this number is kept")
        return self.do(house, number, None)

    def back(self):
        """Take the last deed back; tell the asked rings whose answer is another one by it."""
        if len(self.done) == 0:
            raise Nothing("there is nothing to take back")
        deed = self.done.pop()
        self.undone.append(deed)
        house, number, ahead, _ = deed
        return self.put(house, number, ahead)

    def again(self):
        """Do again what was taken back last; tell the asked rings whose answer is another one by it."""
        if len(self.undone) == 0:
            raise Nothing("there is nothing to do again")
        deed = self.undone.pop()
        self.done.append(deed)
        house, number, _, behind = deed
        return self.put(house, number, behind)

    def log(self, house):
        """Tell the log of a house."""
        refuse_no_house(house)
        return tuple([self.kept[(house, number)] for number in self.numbers(house)])

    def best(self):
        """Tell (d, joining): the least difference with the greatest count, and a joining with so many pairs."""
        return best(self.log("bridge"), self.log("room"), self.lag, self.low, self.high)

    def lot(self):
        """Tell how many rows are missed or strange with the best joining."""
        _, joined = self.best()
        return lot(self.log("bridge"), self.log("room"), joined)

    def ask(self, number):
        """Tell what became of a ring with the best joining, and keep its number among the asked ones."""
        if not self.is_ring(number):
            raise Unknown(number)
        _, joined = self.best()
        answer = self.answer_of(number, joined)
        if number not in self.followed:
            self.followed.append(number)
        return answer

    def forget(self, number):
        """Keep a number among the asked ones no longer."""
        # To Python, a truth is like a number.
        if not is_number(number) or number not in self.followed:
            raise Unknown(number)
        self.followed.remove(number)

    def asked(self):
        """Tell the numbers of the asked rings."""
        return sorted(self.followed)

    def twin(self):
        """Tell another watch that is as this one, and goes on by itself."""
        other = Watch(self.lag, self.low, self.high)
        other.kept = {place: self.kept[place] for place in self.kept}
        other.followed = list(self.followed)
        other.done = list(self.done)
        other.undone = list(self.undone)
        return other

    def numbers(self, house):
        """Tell the numbers of the kept rows of a house, rising."""
        return sorted([number for kept_of, number in self.kept if kept_of == house])

    def refuse_misfit(self, house, number, row):
        """Refuse a row that can't be kept under a number because of the other rows that are kept."""
        if (house, number) in self.kept:
            raise Taken("a row of this number is kept already")
        numbers = self.numbers(house)
        if len(numbers) >= MOST_ROWS:
            raise Full("there are as many rows of this house as can be")
        ahead = [other for other in numbers if other < number]
        if ahead and row[0] < self.kept[(house, ahead[-1])][0]:
            raise Late(ahead[-1])
        behind = [other for other in numbers if other > number]
        if behind and row[0] > self.kept[(house, behind[0])][0]:
            raise Late(behind[0])

    def do(self, house, number, row):
        """Put a row, or None, under a number as a new deed; tell what the deed tells."""
        self.done.append((house, number, self.kept.get((house, number)), row))
        self.undone = []
        return self.put(house, number, row)

    def put(self, house, number, row):
        """Keep a row under a number, none there where it is None; tell the asked rings with another answer by it."""
        ahead = self.answers()
        if row is None:
            del self.kept[(house, number)]
        else:
            self.kept[(house, number)] = row
        behind = self.answers()
        return [ring for ring in self.asked() if ahead[ring] != behind[ring]]

    def answers(self):
        """Tell the answers of all asked rings, by their numbers; None where the bridge has no such ring."""
        told = {ring: None for ring in self.followed}
        rings = [ring for ring in self.followed if self.is_ring(ring)]
        if rings:
            _, joined = self.best()
            for ring in rings:
                told[ring] = self.answer_of(ring, joined)
        return told

    def is_ring(self, thing):
        """Tell whether a thing is the number of a row on a bell that is kept of the bridge's."""
        return is_number(thing) and ("bridge", thing) in self.kept and is_bell(self.kept[("bridge", thing)][1])

    def answer_of(self, number, joined):
        """Tell what became of a ring with a joining, the rows by their numbers in the watch."""
        on_bridge = self.numbers("bridge")
        in_room = self.numbers("room")
        answer = ring_of(self.log("bridge"), self.log("room"), joined, on_bridge.index(number))
        rows = [in_room[at] for at in answer[1:3]]
        if answer[0] == "answered":
            rows.append(None if answer[3] is None else on_bridge[answer[3]])
        return (answer[0], *rows)


def is_number(thing):
    """Tell whether a thing is a number that a row may have."""
    return is_whole(thing) and 0 <= thing <= LAST_NUMBER


def is_lag(thing):
    """Tell whether a thing is a lag."""
    return is_whole(thing) and 0 <= thing <= LONGEST_LAG


def is_stretch(low, high):
    """Tell whether two things are the bounds of a stretch of differences."""
    if not is_difference(low) or not is_difference(high):
        return False
    return low <= high <= low + LONGEST_STRETCH


def is_difference(thing):
    """Tell whether a thing is a difference of the clocks."""
    return is_whole(thing) and -MOST_APART <= thing <= MOST_APART


def refuse_no_house(thing):
    """Refuse what is no house."""
    if not is_house(thing):
        raise Unknown(thing)

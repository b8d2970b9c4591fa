"""Watches for several tests: rows to tell, what is none, and a watch by the document's words."""

from ringorders import counts
from ringorders.errors import Full, Late, NoNumber, Nothing, Taken, Unknown
from ringorders.rings import ring_of
from ringorders.watch import Watch
from tests.helper import odd_things

# The room's clock shows three minutes more; the second ring was taken back, the third never heard, the last is open.
ROWS = [("bridge", 10, (0, "port", 1)), ("bridge", 20, (1, "aport", 1)), ("bridge", 30, (5, "star", 2)),
        ("bridge", 40, (6, "star", -2)), ("bridge", 50, (9, "port", 3)), ("bridge", 60, (9, "down", "dora")),
        ("room", 5, (3, "port", 1)), ("room", 7, (4, "aport", 1)), ("room", 9, (8, "star", 2)),
        ("room", 11, (9, "star", 1)), ("room", 13, (12, "port", 3)), ("room", 15, (12, "down", "dora"))]
ANSWERS = {10: ("answered", 5, 7, 20), 30: ("taken", 9, 11), 40: ("never",), 50: ("open", 13)}
NO_HOUSES = odd_things() + ["Bridge", "ROOM", "bridge ", " room", "bridgeroom", ("bridge",), ["room"], {"bridge": 1}]
NO_NUMBERS = odd_things() + [-1, 1000, True, False, "7", (7,), [7], 10 ** 99]
NO_ROWS = odd_things() + [(0, "port", 5), (0, "port"), (100000, "port", 1), (-1, "port", 1), (0, "Port", 1),
                          (0, "down", 1), (0, "port", "a"), (True, "port", 1), (0, "port", True), {0: 0, 1: 1, 2: 2},
                          (0, "down", "abcdefghi"), (0, "port", 1, 1), ((0, "port", 1),), "0 port 1", (0, ["port"], 1)]


def watch_of(rows, lag=1, low=0, high=9):
    """A watch that was told these rows."""
    watch = Watch(lag, low, high)
    for row in rows:
        watch.tell(*row)
    return watch


def told_by(watch):
    """All that a watch tells."""
    answers = []
    for number in range(0, 1000, 1 if len(watch) > 80 else 5):
        try:
            answers.append((number, watch.twin().ask(number)))
        except Unknown:
            pass
    return (watch.log("bridge"), watch.log("room"), watch.best(), watch.lot(), watch.asked(), answers, len(watch))


class Model:
    """A watch by the document's words: the rows kept behind each deed, and how many of these are not taken back."""

    def __init__(self, lag, low, high):
        self.stretch = (lag, low, high)
        self.steps, self.at = [{}], 0
        self.asked = []

    def kept(self):
        return self.steps[self.at]

    def numbers(self, house):
        return sorted(number for of, number in self.kept() if of == house)

    def log(self, house):
        return tuple(self.kept()[house, number] for number in self.numbers(house))

    def answer(self, number):
        """What became of a ring by its number in the watch, None where there is none."""
        if self.kept().get(("bridge", number), (0, "up", "a"))[1] not in ("port", "star"):
            return None
        bridge, room = self.numbers("bridge"), self.numbers("room")
        _, joined = counts.best(self.log("bridge"), self.log("room"), *self.stretch)
        told = ring_of(self.log("bridge"), self.log("room"), joined, bridge.index(number))
        places = [told[0]] + [room[at] for at in told[1:3]]
        if told[0] == "answered":
            places.append(None if told[3] is None else bridge[told[3]])
        return tuple(places)

    def moved(self, step):
        """The asked rings with another answer, when it goes to another step."""
        ahead = {number: self.answer(number) for number in self.asked}
        self.at = step
        return sorted(number for number in self.asked if ahead[number] != self.answer(number))

    def new_step(self, kept):
        self.steps[self.at + 1:] = [kept]
        return self.moved(self.at + 1)

    def tell(self, house, number, row):
        if (house, number) in self.kept():
            return "Taken"
        if len(self.numbers(house)) == 40:
            return "Full"
        ahead = [other for other in self.numbers(house) if other < number][-1:]
        behind = [other for other in self.numbers(house) if other > number][:1]
        if ahead and row[0] < self.kept()[house, ahead[0]][0]:
            return ("Late", ahead[0])
        if behind and row[0] > self.kept()[house, behind[0]][0]:
            return ("Late", behind[0])
        return self.new_step({**self.kept(), (house, number): row})

    def drop(self, house, number):
        if (house, number) not in self.kept():
            return "NoNumber"
        return self.new_step({place: row for place, row in self.kept().items() if place != (house, number)})

    def back(self):
        return self.moved(self.at - 1) if self.at else "Nothing"

    def again(self):
        return self.moved(self.at + 1) if self.at + 1 < len(self.steps) else "Nothing"

    def ask(self, number):
        answer = self.answer(number)
        if answer is not None and number not in self.asked:
            self.asked.append(number)
        return answer if answer is not None else ("Unknown", number)

    def forget(self, number):
        if number not in self.asked:
            return ("Unknown", number)
        self.asked.remove(number)
        return None


def outcome(deed):
    """What a deed tells, or the name of its refusal with its field."""
    try:
        return deed()
    except (Late, Unknown) as refusal:
        return (type(refusal).__name__, refusal.number if isinstance(refusal, Late) else refusal.name)
    except (Taken, Full, NoNumber, Nothing) as refusal:
        return type(refusal).__name__

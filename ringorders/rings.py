"""What became of a ring on a bell of the bridge's, and from when to when it was obeyed, by a joining."""

from ringorders.answers import what_became
from ringorders.errors import Unknown
from ringorders.logs import rows_on
from ringorders.pairs import is_number_in
from ringorders.rows import is_bell


def ring_of(bridge, room, joining, number):
    """Tell what became of a ring: a tuple that begins with "never", "answered", "taken" or "open"."""
    heard = heard_as(bridge, joining, number)
    if heard is None:
        return ("never",)
    _, word, later = what_became(room, bridge[number][1], heard)
    if word == "answered":
        return (word, heard, later, seen_as(joining, later))
    if word == "taken":
        return (word, heard, later)
    return (word, heard)


def obeyed(bridge, room, joining, number, d=0):
    """Tell (from, to) by the bridge's clock, to None where no other ring was heard later; None of one never heard."""
    heard = heard_as(bridge, joining, number)
    if heard is None:
        return None
    later = [r for r in rows_on(room, bridge[number][1]) if r > heard]
    return (room[heard][0] - d, room[later[0]][0] - d if later else None)


def heard_as(bridge, joining, number):
    """Tell the number of the room's row that is joined with a ring, or None."""
    if not is_number_in(bridge, number) or not is_bell(bridge[number][1]):
        raise Unknown(number)
    heard = [r for b, r in joining if b == number]
    return heard[0] if heard else None


def seen_as(joining, number):
    """Tell the number of the bridge's row that is joined with one of the room's, or None."""
    seen = [b for b, r in joining if r == number]
    return seen[0] if seen else None

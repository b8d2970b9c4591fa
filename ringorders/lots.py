"""The lot of a joining: the rows that were missed, and the strange ones with why they are."""

from ringorders.rows import sent_from

# The line of the other engine, for the bells and the dials.
OTHER_ENGINES = {"port": "star", "star": "port", "aport": "astar", "astar": "aport"}


def missed(bridge, room, joining):
    """Tell (house, number) of the rows that were sent and are in no pair."""
    rows = unpaired(bridge, room, joining)
    return [(house, number) for house, number, line in rows if sent_from(line) == house]


def strange(bridge, room, joining, d=0, lag=0):
    """Tell (house, number, why) of the rows that came and are in no pair."""
    lost = missed(bridge, room, joining)
    told = []
    for house, number, line in unpaired(bridge, room, joining):
        if sent_from(line) != house:
            told.append((house, number, why_strange(bridge, room, lost, house, number, d, lag)))
    return told


def lot(bridge, room, joining):
    """Tell how many rows are missed or strange."""
    return len(bridge) + len(room) - 2 * len(joining)


def unpaired(bridge, room, joining):
    """Tell (house, number, line) of the rows that are in no pair."""
    seen = [b for b, _ in joining]
    heard = [r for _, r in joining]
    rows = [("bridge", number, row[1]) for number, row in enumerate(bridge) if number not in seen]
    return rows + [("room", number, row[1]) for number, row in enumerate(room) if number not in heard]


def why_strange(bridge, room, lost, house, number, d, lag):
    """Tell why a row that came and is in no pair is strange; lost are the rows that were missed."""
    if is_doubled(bridge if house == "bridge" else room, number, lag):
        return "doubled"
    came, line, what = row_by_bridge(bridge, room, house, number, d)
    for sender, lost_number in lost:
        sent, lost_line, lost_what = row_by_bridge(bridge, room, sender, lost_number, d)
        if lost_line == OTHER_ENGINES.get(line) and lost_what == what and 0 <= came - sent <= lag:
            return "crossed"
    return "unsent"


def is_doubled(log, number, lag):
    """Tell whether the last row ahead of one, on its line, has the same what and was at most lag earlier."""
    minute, line, what = log[number]
    ahead = [row for row in log[:number] if row[1] == line]
    return len(ahead) > 0 and ahead[-1][2] == what and minute - ahead[-1][0] <= lag


def row_by_bridge(bridge, room, house, number, d):
    """Tell a row with its minute by the bridge's clock."""
    if house == "bridge":
        return bridge[number]
    minute, line, what = room[number]
    return (minute - d, line, what)

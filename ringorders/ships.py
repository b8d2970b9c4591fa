"""Where a ship is: her place and her swing, behind so many minutes of the same turns."""

from math import gcd

# How much x and y grow by one turn ahead, by headings.
HEADINGS = ((0, 1), (1, 1), (1, 0), (1, -1), (0, -1), (-1, -1), (-1, 0), (-1, 1))


def heading(swing, step=45):
    """Tell the number of the heading of a ship with a swing."""
    return swing // step % len(HEADINGS)


def sail(ship, port, star, minutes, step=45):
    """Tell where a ship is behind so many minutes of the same turns, or was, where they are below 0."""
    x, y, swing = ship
    veer = port - star
    # Behind this many minutes her headings begin anew, be it forward or back.
    circle = len(HEADINGS) * step
    many = circle // gcd(veer, circle)
    rounds, left = divmod(minutes, many)
    # Of few minutes there is no whole round, and its way needn't be gone.
    round_x, round_y = way(swing, veer, many if rounds != 0 else 0, step)
    left_x, left_y = way(swing, veer, left, step)
    made = port + star
    return (x + made * (rounds * round_x + left_x), y + made * (rounds * round_y + left_y), swing + minutes * veer)


def way(swing, veer, minutes, step):
    """Tell how far a ship comes by one turn a minute, her swing growing by veer behind each of so many minutes."""
    x = y = 0
    for minute in range(minutes):
        along_x, along_y = HEADINGS[heading(swing + minute * veer, step)]
        x += along_x
        y += along_y
    return (x, y)

"""Lines that are told to a desk, and what their words write."""

from ringorders.errors import NoLine, Unknown
from ringorders.reader import read_card, read_engine, read_line, read_minute, read_signed, read_what
from ringorders.rows import is_house

MOST_FIGURES = 30

# The kinds of the words behind the first one.
KINDS = {
    "tell": ("house", "number", "minute", "line", "what"),
    "drop": ("house", "number"),
    "back": (),
    "again": (),
    "log": ("house",),
    "best": (),
    "lot": (),
    "ring": ("number",),
    "forget": ("number",),
    "stands": ("house", "engine", "minute"),
    "apart": ("engine", "number", "number"),
    "turns": ("house", "engine", "number", "number"),
    "place": ("house", "number", "number", "number", "number", "number"),
    "play": ("number", "number", "number", "card"),
}


def read_told(line):
    """Tell (word, values) of a line: its first word, and what the others write."""
    words = words_in(line)
    kinds = KINDS[words[0]]
    values = []
    for kind, word in zip(kinds, words[1:]):
        # What stands on a line hangs on the line, the word ahead of it.
        values.append(read_what(values[-1], word) if kind == "what" else read_kind(kind, word))
    for kind, value in zip(kinds, values):
        if kind == "house" and not is_house(value):
            raise Unknown(value)
    return (words[0], values)


def words_in(line):
    """Tell the words of a line, a card's text as one."""
    if not isinstance(line, str):
        raise NoLine("this is no text")
    words = line.split(" ")
    if words[0] not in KINDS:
        raise NoLine("there is no line with this first word")
    many = len(KINDS[words[0]])
    if words[0] == "play":
        words = line.split(" ", many)
    if len(words) != 1 + many:
        raise NoLine("this line has too few or too many words")
    return words


def read_kind(kind, word):
    """Read a word of a kind; a house may be any word."""
    if kind == "number":
        return read_signed(word, MOST_FIGURES)
    if kind == "minute":
        return read_minute(word)
    if kind == "line":
        return read_line(word)
    if kind == "engine":
        return read_engine(word)
    if kind == "card":
        return read_card(word)
    return word

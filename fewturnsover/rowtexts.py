"""A text's rows as words, and read back."""

from fewturnsover.names import is_name
from fewturnsover.words import is_figures

# Of rows by their first word, and of rows `set` by their third: what the words behind the first one are.
SHAPES = {"if": "ann", "wait": "an", "call": "a", "begin": "a", "back": "", "fault": ""}
SOURCES = {"to": "aan", "on": "aan", "of": "aaa", "any": "aa"}


def shape_of(words):
    """Tell, word by word, `n` of a number, `a` of a name and `-` of neither, as a text."""
    return "".join(["n" if is_figures(word) else "a" if is_name(word) else "-" for word in words])


def is_row(words):
    """Tell whether words are a row of a text, by its form."""
    shape = shape_of(words[1:])
    if words[0] == "set":
        return len(words) > 2 and SOURCES.get(words[2]) == shape
    if words[0] == "go":
        return len(shape) > 0 and shape == "n" * len(shape)
    return SHAPES.get(words[0]) == shape


def read_row(words):
    """Tell the row of words that are one."""
    things = [int(word) if is_figures(word) else word for word in words]
    if things[0] == "set":
        return "set", things[1], tuple(things[2:])
    if things[0] == "go":
        return "go", tuple(things[1:])
    return tuple(things)


def shown_row(row):
    """Tell a row as words."""
    things = row
    if row[0] == "set":
        things = row[:2] + row[2]
    elif row[0] == "go":
        things = row[:1] + row[1]
    return " ".join([str(thing) for thing in things])

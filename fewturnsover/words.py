"""Words of written rows: numbers, names and boxes."""

from fewturnsover.names import is_name

MOST_FIGURES = 4


def is_figures(word):
    """Tell whether a word is a number in figures, without a nought ahead."""
    if not word.isascii() or not word.isdigit() or len(word) > MOST_FIGURES:
        return False
    return word == "0" or word[0] != "0"


def is_box(word):
    """Tell whether a word is a box's name and size."""
    name, sign, size = word.partition("/")
    return is_name(name) and is_figures(size)


def read_boxes(words):
    """Tell the boxes of words that are boxes."""
    parts = [word.split("/") for word in words]
    return tuple([(name, int(size)) for name, size in parts])


def shown_boxes(boxes):
    """Tell boxes as words, a list."""
    return [f"{name}/{size}" for name, size in boxes]

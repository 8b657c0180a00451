"""A desk: programs kept by names, and asked about by rows of words."""

from fewturnsover.endless import endless
from fewturnsover.errors import NoName, NoRow, TooMany
from fewturnsover.names import is_name
from fewturnsover.onehand import one_hand
from fewturnsover.programs import like_hands
from fewturnsover.texts import read, shown, shown_run
from fewturnsover.told import least_turns
from fewturnsover.words import is_figures

MOST_KEPT = 8
NUMBERS = ("0", "1", "2", "3", "4")


def listed(words):
    """Tell a list as words, `-` of none."""
    return " ".join(words) if words else "-"


def in_one_row(text):
    """Tell a text in one row."""
    return text.replace("\n", "; ")


def order_of(word):
    """Tell the numbers of a word, those with commas between; None where it is none."""
    figures = word.split(",")
    return tuple([int(number) for number in figures]) if all([is_figures(number) for number in figures]) else None


def show_answer(program):
    """Tell the program's text."""
    return in_one_row(shown(program))


def safe_answer(program):
    """Tell whether a program is safe without an end of turns."""
    kind = endless(program)[0]
    return "yes" if kind == "book" else "no" if kind == "run" else "open"


def like_answer(program):
    """Tell the lots of like hands."""
    return listed([",".join([str(hand) for hand in lot]) for lot in like_hands(program)])


def least_answer(program, word):
    """Tell the least turns up to a number."""
    found = least_turns(program, int(word))
    return "none" if found is None else str(found[0])


def run_answer(program, word):
    """Tell the run of the least turns up to a number."""
    found = least_turns(program, int(word))
    return "-" if found is None or found[0] == 0 else in_one_row(shown_run(found[1]))


def one_answer(program, word):
    """Tell whether a fault is come to in the program made for an order."""
    return "none" if least_turns(one_hand(program, order_of(word)), 1) is None else "fault"


# What is asked by a name alone, by a name and a number of turns, and by a name and an order.
BY_NAME = {"show": show_answer, "safe": safe_answer, "like": like_answer}
BY_NUMBER = {"least": least_answer, "run": run_answer}
BY_ORDER = {"one": one_answer}


class Desk:
    """Programs by their names."""

    def __init__(self):
        self.programs = {}

    def say(self, row):
        """Tell the answer to a row."""
        if not isinstance(row, str):
            raise NoRow()
        if row == "names":
            return listed(sorted(self.programs))
        words = row.split(" ")
        if len(words) < 2 or not is_name(words[1]):
            raise NoRow()
        if words[0] == "keep" and len(words) > 2:
            return self.keep(words[1], " ".join(words[2:]))
        if len(words) == 3:
            return self.answer_by_more(words[0], words[1], words[2])
        if len(words) == 2:
            return self.answer_by_name(words[0], words[1])
        raise NoRow()

    def keep(self, name, text):
        """Keep the program of a text in one row by a name."""
        program = read(text.replace("; ", "\n"))
        if name not in self.programs and len(self.programs) == MOST_KEPT:
            raise TooMany(MOST_KEPT + 1)
        self.programs[name] = program
        return "ok"

    def kept_by(self, name):
        """Tell the program kept by a name."""
        if name not in self.programs:
            raise NoName(name)
        return self.programs[name]

    def answer_by_name(self, word, name):
        """Tell the answer to a row of a word and a name."""
        if word == "drop":
            self.kept_by(name)
            del self.programs[name]
            return "ok"
        if word not in BY_NAME:
            raise NoRow()
        answer = BY_NAME[word]
        return answer(self.kept_by(name))

    def answer_by_more(self, word, name, more):
        """Tell the answer to a row of a word, a name and one more word."""
        if word in BY_NUMBER and more in NUMBERS:
            answer = BY_NUMBER[word]
        elif word in BY_ORDER and order_of(more) is not None:
            answer = BY_ORDER[word]
        else:
            raise NoRow()
        return answer(self.kept_by(name), more)

    def __len__(self):
        return len(self.programs)

"""Things of every kind, programs, and ways to put one thing in another's stead."""


class Contrary:
    """Fails whoever compares it, hashes it or asks for its truth or length."""

    __hash__ = None

    def __eq__(self, other):
        raise AssertionError("compared")

    def __lt__(self, other):
        raise AssertionError("compared")

    def __bool__(self):
        raise AssertionError("asked for its truth")

    def __len__(self):
        raise AssertionError("asked for its length")

    def __repr__(self):
        raise AssertionError("shown")


class Agreeable:
    """Says that it is the same as anything."""

    def __eq__(self, other):
        return True

    def __ne__(self, other):
        return False

    def __lt__(self, other):
        return True

    def __gt__(self, other):
        return True

    def __hash__(self):
        return 0


def nested(kind, deep):
    thing = kind()
    for count in range(deep):
        thing = kind([thing])
    return thing


def ring():
    thing = []
    thing.append(thing)
    return thing


def never():
    """Things that can stand nowhere in a program, a stand or a machine, but for None in a stand."""
    return [
        None, True, False, -1, -10 ** 29, 0.5, "", "A", "aB", "a1", "1", "a b", " ", "a ", "a\n", "\n", "a_b", "abcdefghi",
        b"", b"a", [], [1], ["a"], [("a", 1)], [[]], [None], ((),), (None,), ({},), ([],), {}, {"a": 1}, {1: []},
        {"a": {"b": []}}, set(), {1}, frozenset(), range(3), object(), len, int, ValueError("a"),
        Contrary(), Agreeable(), nested(list, 29), nested(tuple, 29), ring(), (Contrary(), Agreeable()),
    ]


def anything():
    """Things of every kind, those included that fit in somewhere."""
    return never() + [
        0, 1, 2, 3, 4, 9, 10 ** 29, "a", "abcdefgh", "set", "back", (), (0,), (1,), (0, 0), (0, 1), (1, 0), (0, 0, 0),
        (1, 1, 1), ("a",), ("a", 1), ("back",), ("any",), ("to", 0), (("a", 1),), (("back",),), ((), ()), ((), (), ()),
        ((0, 0),),
    ]


def paths(thing, ahead=()):
    """The ways to the thing itself and to all that lies within its tuples."""
    found = [ahead]
    if isinstance(thing, tuple):
        for at, item in enumerate(thing):
            found.extend(paths(item, ahead + (at,)))
    return found


def item_at(thing, path):
    for at in path:
        thing = thing[at]
    return thing


def replaced(thing, path, item):
    if not path:
        return item
    at = path[0]
    return thing[:at] + (replaced(thing[at], path[1:], item),) + thing[at + 1:]


def left_out(thing, path):
    around, at = item_at(thing, path[:-1]), path[-1]
    return replaced(thing, path[:-1], around[:at] + around[at + 1:])


def doubled(thing, path):
    around, at = item_at(thing, path[:-1]), path[-1]
    return replaced(thing, path[:-1], around[:at + 1] + around[at:])


BACK = ("back",)
FAULT = ("fault",)

# Every kind of row and source, two texts, common and own boxes, a hand that begins another.
RICH = (
    (("x", 2), ("y", 3), ("one", 1)),
    (
        ("main", (("a", 2), ("b", 8)), (
            ("top", (
                ("set", "x", ("to", 1)),
                ("set", "b", ("of", "y")),
                ("set", "y", ("on", 2)),
                ("set", "a", ("any",)),
                ("if", "a", 1, 6),
                ("go", (0, 3, 7, 9)),
                ("call", "sub"),
                ("wait", "x", 1),
                ("begin", "aide"),
            )),
            ("sub", (
                ("set", "b", ("on", 3)),
                BACK,
                FAULT,
            )),
        )),
        ("aide", (("a", 4),), (
            ("top", (
                ("set", "x", ("of", "one")),
                ("if", "y", 2, 3),
                ("call", "top"),
            )),
        )),
        ("third", (), (
            ("top", (("wait", "y", 2), FAULT)),
        )),
    ),
)


def one_hand(rows, own=(), boxes=()):
    """A program of one hand with one text."""
    return (boxes, (("main", own, (("top", tuple(rows)),)),))


def of_hands(*hands, boxes=()):
    """A program of hands without own boxes: each a tuple of texts' rows, the texts called a, b .."""
    letters = "abcdefgh"
    told = []
    for number, texts in enumerate(hands):
        named = tuple((letters[at], tuple(rows)) for at, rows in enumerate(texts))
        told.append(("hand" + letters[number], (), named))
    return (boxes, tuple(told))


# One hand sets a box that the other waits for, and faults behind.
TWO = of_hands(
    [[("set", "x", ("any",)), ("go", (0, 2)), ("set", "x", ("on", 1))]],
    [[("go", (0, 1)), ("wait", "x", 1), FAULT]],
    boxes=(("x", 3),),
)

# Calls itself as deep as one likes, and faults at any depth.
DEEP = one_hand([("go", (1, 3)), ("call", "top"), BACK, FAULT])

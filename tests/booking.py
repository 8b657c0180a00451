"""Books looked at plainly, by the words of what lets one by; and ways to change books."""

from tests.machining import closed_plainly, is_turn_of, living, read_by
from tests.reference import first_of
from tests.samples import FAULT
from tests.test_pairs import shown_plainly


def whole(thing):
    return type(thing) is int


def from_nought(thing):
    return whole(thing) and thing >= 0


def tuple_of(thing, many=None):
    return type(thing) is tuple and (many is None or len(thing) == many)


def rising_tuple(thing, check):
    return tuple_of(thing) and all(check(item) for item in thing) and list(thing) == sorted(set(thing))


def is_machine_plainly(thing):
    if not tuple_of(thing, 3):
        return False
    begins, edges, ends = thing

    def begin(item):
        return tuple_of(item, 2) and tuple_of(item[0]) and all(whole(number) for number in item[0]) and from_nought(item[1])

    def edge(item):
        return (tuple_of(item, 3) and from_nought(item[0]) and tuple_of(item[1], 2) and all(from_nought(part) for part in item[1])
                and from_nought(item[2]))

    return rising_tuple(begins, begin) and rising_tuple(edges, edge) and rising_tuple(ends, from_nought)


def is_limit_plainly(program, thing):
    def number(item):
        return item is None or from_nought(item)
    return tuple_of(thing, 2) and number(thing[0]) and tuple_of(thing[1], len(program[1])) and all(number(one) for one in thing[1])


def is_common_plainly(program, thing):
    sizes = [size for name, size in program[0]] + [2] * len(program[1])
    return tuple_of(thing, len(sizes)) and all(whole(one) and 0 <= one < size for one, size in zip(thing, sizes))


def is_own_plainly(program, hand, thing):
    """Whether a machine is one of a hand's own values and points, by what is read."""
    if not is_machine_plainly(thing):
        return False
    common = (0,) * len(program[0]) + (1,) * len(program[1])
    return is_turn_of(program, hand, (tuple((common + control, state) for control, state in thing[0]),) + thing[1:])


def has_fault_plainly(program, hand, machine):
    alive = living(machine)
    states = {state for control, state in machine[0] if state in alive}
    texts = program[1][hand][2]
    return any(state in states and other in alive and row < len(texts[text][1]) and texts[text][1][row] == FAULT
               for state, (text, row), other in machine[1])


def covers_plainly(one, other):
    pairs = zip((one[0],) + one[1], (other[0],) + other[1])
    return all(mine is None or its is not None and mine >= its for mine, its in pairs)


def less_plainly(limit, hand):
    numbers = [limit[0], *limit[1]]
    for at in (0, hand + 1):
        if numbers[at]:
            numbers[at] -= 1
    return numbers[0], tuple(numbers[1:])


def are_pairs_plainly(thing):
    return tuple_of(thing) and all(tuple_of(pair, 2) and from_nought(pair[0]) and from_nought(pair[1]) for pair in thing)


def is_entry_plainly(program, thing):
    if not tuple_of(thing, 5):
        return False
    limit, common, machines, last, turns = thing
    hands = len(program[1])
    if not is_limit_plainly(program, limit) or not is_common_plainly(program, common):
        return False
    if not (last is None or whole(last) and 0 <= last < hands) or not tuple_of(machines, hands) or not tuple_of(turns, hands):
        return False
    for hand in range(hands):
        if not common[len(program[0]) + hand]:
            if machines[hand] is not None:
                return False
        elif not is_own_plainly(program, hand, machines[hand]) or has_fault_plainly(program, hand, machines[hand]):
            return False
    return True


def let_by_plainly(program, limit, thing):
    """Whether a thing is a book that is let by."""
    if type(thing) is not list or not thing or not all(is_entry_plainly(program, entry) for entry in thing):
        return False
    common, places = first_of(program)
    covering, there, machines, last, turns = thing[0]
    if not covers_plainly(covering, limit) or last is not None or there != common:
        return False
    if not all(at is None or read_by(machines[hand], *at) for hand, at in enumerate(places)):
        return False
    return all(lets_entry_plainly(program, thing, entry) for entry in thing)


def lets_entry_plainly(program, book, entry):
    limit, common, machines, last, turns = entry
    for hand in range(len(program[1])):
        if machines[hand] is not None and hand != last and limit[0] != 0 and limit[1][hand] != 0:
            if not lets_turn_plainly(program, book, entry, hand, turns[hand]):
                return False
    return True


def lets_turn_plainly(program, book, entry, hand, thing):
    if not tuple_of(thing, 3) or not is_machine_plainly(thing[0]) or not are_pairs_plainly(thing[1]) or not tuple_of(thing[2]):
        return False
    machine, pairs, links = thing
    common = entry[1]
    if not closed_plainly(program, hand, machine) or has_fault_plainly(program, hand, machine):
        return False
    if not shown_plainly(entry[2][hand], machine, pairs, common):
        return False
    alive = living(machine)
    commons = sorted({control[:len(common)] for control, state in machine[0] if state in alive})
    if len(links) != len(commons):
        return False
    return all(lets_link_plainly(program, book, entry, hand, machine, known, link) for known, link in zip(commons, links))


def lets_link_plainly(program, book, entry, hand, machine, common, thing):
    if not tuple_of(thing, 3) or not is_common_plainly(program, thing[0]) or thing[0] != common:
        return False
    number, pairs = thing[1:]
    if not from_nought(number) or number >= len(book) or not are_pairs_plainly(pairs):
        return False
    limit, there, machines, last, turns = book[number]
    if there != common or last not in (None, hand) or not covers_plainly(limit, less_plainly(entry[0], hand)):
        return False
    for other in range(len(program[1])):
        if other != hand and entry[2][other] is not None and machines[other] != entry[2][other]:
            return False
        if other != hand and entry[2][other] is None and machines[other] is not None:
            if not read_by(machines[other], (0,) * len(program[1][other][1]), ((0, 0),)):
                return False
    short = (tuple((control[len(common):], state) for control, state in machine[0] if control[:len(common)] == common),) + machine[1:]
    return shown_plainly(short, machines[hand], pairs)


def ways_into(thing, ahead=()):
    """The ways to the thing itself and to all that lies within its tuples and lists."""
    found = [ahead]
    if isinstance(thing, (tuple, list)):
        for at, item in enumerate(thing):
            found.extend(ways_into(item, ahead + (at,)))
    return found


def put_at(thing, path, item):
    """The thing with an item at the end of a way into it; what is around is made anew."""
    if not path:
        return item
    items = list(thing)
    items[path[0]] = put_at(items[path[0]], path[1:], item)
    return type(thing)(items)


def found_at(thing, path):
    for at in path:
        thing = thing[at]
    return thing


def dropped_at(thing, path):
    around = list(found_at(thing, path[:-1]))
    del around[path[-1]]
    return put_at(thing, path[:-1], type(found_at(thing, path[:-1]))(around))


def doubled_at(thing, path):
    around = list(found_at(thing, path[:-1]))
    around.insert(path[-1], around[path[-1]])
    return put_at(thing, path[:-1], type(found_at(thing, path[:-1]))(around))

"""Books: which are let by."""

import random
import unittest

from fewturnsover.books import lets_book
from fewturnsover.errors import NoLimit, NoProgram
from fewturnsover.growing import grown
from fewturnsover.limits import covers, limit_of
from fewturnsover.machines import is_machine
from fewturnsover.pairs import inside
from fewturnsover.told import told
from tests.booking import doubled_at, dropped_at, found_at, let_by_plainly, put_at, ways_into
from tests.machining import joined, living, machine_of, renumbered, states_in
from tests.samples import BACK, FAULT, anything, never, of_hands
from tests.telling import faulty_programs, fewest_turns, some_limit

# Three turns lead to the fault: of the first hand, the second, the first again.
THREE = (
    (("x", 3),),
    (
        ("one", (("a", 2),), (("top", (("set", "x", ("to", 1)), ("wait", "x", 2), ("set", "a", ("to", 1)), FAULT)),)),
        ("two", (), (("top", (("wait", "x", 1), ("set", "x", ("to", 2)))),)),
    ),
)
# The first hand begins the second, which faults where x is 1; the third sets it.
BEGUN = (
    (("x", 2),),
    (
        ("one", (), (("top", (("begin", "two"),)),)),
        ("two", (("a", 2),), (("top", (("wait", "x", 1), FAULT)),)),
        ("three", (), (("top", (("set", "x", ("to", 1)),)),)),
    ),
)
EMPTY = ((), (), ())


def book_for(program, many, each=None):
    kind, book = told(program, limit_of(program, many, each=each))
    assert kind == "book"
    return book


class Books(unittest.TestCase):
    def lets(self, wanted, program, limit, thing):
        self.assertIs(lets_book(program, limit, thing), wanted)
        self.assertIs(let_by_plainly(program, limit, thing), wanted)


class ToldOnes(Books):
    def test_for_the_limit_and_for_smaller_and_greater_ones(self):
        book = book_for(THREE, 2)
        for many in range(5):
            for each in (None, 0, 1, 2, 9):
                self.lets(many <= 2, THREE, limit_of(THREE, many, each=each), book)
        self.lets(False, THREE, limit_of(THREE, None), book)
        book = book_for(THREE, 9, 1)
        for each in (None, 0, 1, 2):
            self.lets(each is not None and each <= 1, THREE, limit_of(THREE, 5, each=each), book)
        self.lets(True, THREE, (9, (1, 0)), book)
        self.lets(False, THREE, (9, (2, 1)), book)
        self.lets(False, THREE, (10, (1, 1)), book)

    def test_of_another_program(self):
        book = book_for(THREE, 1)
        safe = put_at(THREE, (1, 0, 2, 0, 1, 3), BACK)
        self.lets(False, safe, limit_of(safe, 1), book_for(BEGUN, 1))
        faulty = put_at(THREE, (1, 0, 2, 0, 1, 0), FAULT)
        self.lets(False, faulty, limit_of(faulty, 1), book)
        self.lets(False, put_at(THREE, (1, 0, 2, 0, 1, 0), ("set", "x", ("to", 2))), limit_of(THREE, 1), book)

    def test_nothing_may_go(self):
        limit = limit_of(THREE, 0)
        book = book_for(THREE, 0)
        self.assertEqual(len(book), 1)
        self.assertEqual(book[0][4], (None, None))
        self.lets(True, THREE, limit, book)
        # What stands there for hands that have no turn isn't looked at.
        for thing in anything():
            self.assertIs(lets_book(THREE, limit, put_at(book, (0, 4, 0), thing)), True)

    def test_a_begun_hand(self):
        for many in range(3):
            kind, book = told(BEGUN, limit_of(BEGUN, many))
            self.assertEqual(kind, "book")
            self.lets(True, BEGUN, limit_of(BEGUN, many), book)
        self.assertEqual(told(BEGUN, limit_of(BEGUN, 3))[0], "run")
        book = book_for(BEGUN, 2)
        self.assertEqual(book[0][2][1], None)
        begun = [number for number, entry in enumerate(book) if entry[1][2] == 1]
        self.assertTrue(begun)
        for number in begun:
            self.lets(False, BEGUN, limit_of(BEGUN, 2), put_at(book, (number, 2, 1), None))
            self.lets(False, BEGUN, limit_of(BEGUN, 2), put_at(book, (number, 2, 1), EMPTY))
            moved = machine_of([((1,), 0)], [(0, (0, 0), 1)], [1])
            self.lets(False, BEGUN, limit_of(BEGUN, 2), put_at(book, (number, 2, 1), moved))
        for number in set(range(len(book))) - set(begun):
            self.lets(False, BEGUN, limit_of(BEGUN, 2), put_at(book, (number, 2, 1), book[begun[0]][2][1]))
        self.lets(False, BEGUN, limit_of(BEGUN, 2), put_at(book, (0, 1, 2), 1))

    def test_programs_by_chance(self):
        many = 0
        for chance, program in faulty_programs(41, 150):
            limit = some_limit(chance, program, 2)
            kind, book = told(program, limit)
            if kind == "book" and len(book) <= 15:
                many += 1
                self.lets(True, program, limit, book)
                self.lets(True, program, (0, limit[1]), book)
        self.assertGreater(many, 60)


class FirstEntries(Books):
    book = book_for(THREE, 1)
    limit = limit_of(THREE, 1)

    def test_the_limit_covers(self):
        for limit in ((1, (None, None)), (2, (None, None)), (None, (None, None)), (1, (1, None)), (0, (None, None))):
            wanted = covers(limit, self.limit) and limit[0] == 1
            self.lets(wanted, THREE, self.limit, put_at(self.book, (0, 0), limit))

    def test_last_is_none(self):
        for last in (0, 1):
            self.lets(False, THREE, self.limit, put_at(self.book, (0, 3), last))

    def test_the_common_state_is_that_at_first(self):
        for common in ((1, 1, 1), (0, 1, 0), (0, 0, 1), (0, 1)):
            self.lets(False, THREE, self.limit, put_at(self.book, (0, 1), common))

    def test_machines_read_values_and_pile_at_first(self):
        for hand, control in ((0, (0,)), (1, ())):
            for machine in (EMPTY, machine_of([(control, 0)], [(0, (0, 1), 1)], [1]), machine_of([(control, 0)], [(0, (0, 0), 1)], [0])):
                self.lets(False, THREE, self.limit, put_at(self.book, (0, 2, hand), machine))
        # Reading more is let by where the turn's machine and what it links to read that too.
        wide = machine_of([((0,), 0), ((1,), 2)], [(0, (0, 0), 1), (2, (0, 0), 1)], [1])
        self.lets(False, THREE, self.limit, put_at(self.book, (0, 2, 0), wide))
        self.lets(True, THREE, (0, (None, None)), put_at(book_for(THREE, 0), (0, 2, 0), wide))

    def test_machines_have_the_hands_own_values_and_points(self):
        book = book_for(THREE, 0)
        limit = limit_of(THREE, 0)
        first = book[0][2][0]
        for control in ((0,), (1,), (2,), (-1,), (), (0, 0), (0, 1, 1, 0)):
            mine = control in ((0,), (1,))
            self.lets(mine, THREE, limit, put_at(book, (0, 2, 0), joined(first, machine_of([(control, 5)], [(5, (0, 1), 1)], []))))
            self.lets(True, THREE, limit, put_at(book, (0, 2, 0), joined(first, machine_of([(control, 5)], [(5, (0, 1), 6)], []))))
        for point in ((0, 0), (0, 4), (0, 5), (1, 0), (9, 9)):
            mine = point in ((0, 0), (0, 4))
            self.lets(mine, THREE, limit, put_at(book, (0, 2, 0), joined(first, machine_of([], [(7, point, 1)], []))))
            self.lets(True, THREE, limit, put_at(book, (0, 2, 0), joined(first, machine_of([], [(0, point, 7)], []))))

    def test_no_entries(self):
        self.lets(False, THREE, self.limit, [])
        self.lets(False, THREE, (0, (0, 0)), [])

    def test_another_one_first(self):
        for number in range(1, len(self.book)):
            order = [self.book[number]] + self.book[1:number] + [self.book[0]] + self.book[number + 1:]
            self.lets(False, THREE, self.limit, order)


class NoFaults(Books):
    def test_no_machine_reads_a_fault(self):
        program = of_hands([[("wait", "x", 1), FAULT]], boxes=(("x", 2),))
        limit = limit_of(program, 0)
        book = book_for(program, 0)
        self.lets(True, program, limit, book)
        first = book[0][2][0]
        for edges, wanted in (([(0, (0, 1), 1)], False), ([(1, (0, 1), 1)], True), ([(0, (0, 1), 7)], True), ([(7, (0, 1), 1)], True),
                              ([(0, (0, 2), 1)], True)):
            changed = machine_of(first[0], list(first[1]) + edges, first[2])
            self.lets(wanted, program, limit, put_at(book, (0, 2, 0), changed))

    def test_no_turn_has_a_fault(self):
        # The closed machine of all that the hand comes to, which faults.
        program = of_hands([[("go", (1,)), FAULT]])
        self.assertEqual(told(program, limit_of(program, 1))[0], "run")
        first = book_for(program, 0)[0][2][0]
        turn = grown(program, 0, ((((1,), 0),),) + first[1:])
        short = (tuple((control[1:], state) for control, state in turn[0]),) + turn[1:]
        pairs = inside(first, turn, ahead=(1,))[1]
        for machines in ((first,), (short,)):
            book = [(limit_of(program, 1), (1,), (first,), None, ((turn, pairs, (((1,), 1, inside(short, short)[1]),)),)),
                    (limit_of(program, 0), (1,), machines, 0, (None,))]
            self.lets(False, program, limit_of(program, 1), book)
        harmless = of_hands([[("go", (1,)), BACK]])
        turn = grown(harmless, 0, ((((1,), 0),),) + first[1:])
        short = (tuple((control[1:], state) for control, state in turn[0]),) + turn[1:]
        book = [(limit_of(program, 1), (1,), (first,), None, ((turn, inside(first, turn, ahead=(1,))[1],
                                                              (((1,), 1, inside(short, short)[1]),)),)),
                (limit_of(program, 0), (1,), (short,), 0, (None,))]
        self.lets(True, harmless, limit_of(program, 1), book)
        self.lets(False, program, limit_of(program, 1), book)

    def test_whoever_made_it_no_book_is_let_by_where_a_run_faults(self):
        # Books for as many turns as do not fault, put for more by every entry's limit being raised.
        seen = 0
        for chance, program in faulty_programs(42, 400, deep=False):
            kind, run = told(program, limit_of(program, 3))
            if kind == "run" and run:
                book = book_for(program, len(run) - 1)
                seen += 1
                raised = [((None, (None,) * len(program[1])),) + entry[1:] for entry in book]
                plus = [((entry[0][0] + 1, entry[0][1]),) + entry[1:] for entry in book]
                for thing in (book, raised, plus, [put_at(entry, (3,), None) for entry in raised]):
                    self.assertIs(lets_book(program, limit_of(program, len(run)), thing), False)
        self.assertGreater(seen, 20)

    def test_what_is_let_by_has_no_fault_by_chance(self):
        chance = random.Random(43)
        seen = 0
        for more, program in faulty_programs(44, 120, deep=False):
            limit = some_limit(more, program, 2)
            kind, book = told(program, limit)
            if kind == "run" or len(book) > 12:
                continue
            for count in range(15):
                thing = changed_by_chance(chance, book)
                wider = some_limit(chance, program, 3)
                if lets_book(program, wider, thing):
                    seen += 1
                    self.assertIn(fewest_turns(program, wider), (None, "much"))
        self.assertGreater(seen, 20)


def changed_by_chance(chance, book):
    """A book with one thing otherwise, left out or doubled, at any depth."""
    path = chance.choice(ways_into(book)[1:])
    item = found_at(book, path)
    way = chance.randrange(5)
    if way == 0:
        return dropped_at(book, path)
    if way == 1:
        return doubled_at(book, path)
    if way == 2 and type(item) is int:
        return put_at(book, path, chance.choice([item + 1, item - 1, 0, 1, bool(item), None, item + 50]))
    if way == 3:
        return put_at(book, path, found_at(book, chance.choice(ways_into(book))))
    return put_at(book, path, chance.choice([None, (), 0, True, [], "a", list(item) if isinstance(item, tuple) else (item,)]))


class Changed(Books):
    book = book_for(THREE, 2)
    limit = limit_of(THREE, 2)

    def denies(self, thing):
        self.lets(False, THREE, self.limit, thing)

    def agrees(self, thing):
        self.assertIs(lets_book(THREE, self.limit, thing), let_by_plainly(THREE, self.limit, thing))

    def test_each_thing_left_out_or_doubled(self):
        for path in ways_into(self.book)[1:]:
            self.agrees(dropped_at(self.book, path))
            self.agrees(doubled_at(self.book, path))

    def test_each_number_otherwise(self):
        for path in ways_into(self.book):
            item = found_at(self.book, path)
            if type(item) is int:
                for number in (item + 1, item - 1, item + 100, None):
                    self.agrees(put_at(self.book, path, number))
                if item in (0, 1):
                    self.denies(put_at(self.book, path, bool(item)))
            elif isinstance(item, tuple):
                self.denies(put_at(self.book, path, list(item)))

    def test_things_of_every_kind(self):
        for thing in anything():
            self.assertIs(lets_book(THREE, self.limit, thing), False)
            self.assertIs(lets_book(THREE, self.limit, [thing]), False)
            self.assertIs(lets_book(THREE, self.limit, self.book + [thing]), False)
        self.assertIs(lets_book(THREE, self.limit, tuple(self.book)), False)
        for entry in range(len(self.book)):
            for path in ways_into(self.book[entry])[1:]:
                for thing in never():
                    last = path == (3,) and (thing is None)
                    limit = path[0] == 0 and thing is None and len(path) > 1
                    unseen = path[0] == 4 and len(path) == 2 and found_at(self.book[entry], path) is None
                    unseen = unseen or path == (4,) and isinstance(thing, tuple) and len(thing) == 2
                    if last or limit or unseen:
                        continue
                    if path[0] == 2 and len(path) > 5 and type(thing) is int:
                        continue
                    self.assertIs(lets_book(THREE, self.limit, put_at(self.book, (entry,) + path, thing)), False, (entry, path))

    def test_entries_twice_and_more_behind(self):
        self.lets(True, THREE, self.limit, self.book + self.book)
        self.lets(True, THREE, self.limit, self.book + [self.book[-1]])
        self.lets(True, THREE, self.limit, [self.book[0]] + self.book[1:] + [self.book[0]])
        # One that isn't let by itself lets the whole not by, though none links to it.
        self.denies(self.book + [self.book[0][:4] + ((None, None),)])
        self.lets(True, THREE, self.limit, self.book + [((0, (None, None)),) + self.book[0][1:4] + ((None, None),)])
        for last in (None, 0, 1, 2, 3, -1):
            more = ((0, (None, None)),) + self.book[0][1:3] + (last, (None, None))
            self.lets(last in (None, 0, 1), THREE, self.limit, self.book + [more])

    def test_entries_in_another_order(self):
        chance = random.Random(45)
        for count in range(10):
            order = list(range(1, len(self.book)))
            chance.shuffle(order)
            order = [0] + order
            places = {number: at for at, number in enumerate(order)}
            mixed = []
            for number in order:
                entry = self.book[number]
                turns = tuple(turn and (turn[0], turn[1], tuple((common, places[link], pairs) for common, link, pairs in turn[2]))
                              for turn in entry[4])
                mixed.append(entry[:4] + (turns,))
            self.lets(True, THREE, self.limit, mixed)
            self.agrees([self.book[number] for number in order])

    def test_links_to_other_entries(self):
        for path in ways_into(self.book):
            if len(path) == 6 and path[1] == 4 and path[3] == 2 and path[5] == 1:
                for number in range(-1, len(self.book) + 1):
                    self.agrees(put_at(self.book, path, number))

    def test_links_more_and_other_orders(self):
        for path in ways_into(self.book):
            if len(path) == 4 and path[1] == 4 and path[3] == 2:
                links = found_at(self.book, path)
                for more in ((), links[1:], links[::-1] if len(links) > 1 else links * 2, links + links[:1], links + (((2, 0, 0), 0, ()),)):
                    self.denies(put_at(self.book, path, more))

    def test_pairs_too_few_and_more(self):
        for path in ways_into(self.book):
            item = found_at(self.book, path)
            turn = len(path) == 4 and path[1] == 4 and path[3] == 1
            link = len(path) == 6 and path[1] == 4 and path[3] == 2 and path[5] == 2
            if turn or link:
                for at in range(len(item)):
                    self.agrees(put_at(self.book, path, item[:at] + item[at + 1:]))
                self.denies(put_at(self.book, path, ()))
                self.lets(True, THREE, self.limit, put_at(self.book, path, item[::-1] + item + ((999, 0), (999, 999))))

    def test_machines_of_turns_with_other_numbers(self):
        names = {state: 2 * state + 5 for state in range(50)}
        turn = self.book[0][4][0]
        changed = (renumbered(turn[0], names), tuple((one, names[other]) for one, other in turn[1]),
                   tuple((common, number, tuple((names[one], other) for one, other in pairs)) for common, number, pairs in turn[2]))
        self.lets(True, THREE, self.limit, put_at(self.book, (0, 4, 0), changed))
        self.denies(put_at(self.book, (0, 4, 0, 0), changed[0]))

    def test_machines_of_entries_with_other_numbers_everywhere(self):
        names = {state: 3 * state + 1 for state in range(50)}
        book = []
        for limit, common, machines, last, turns in self.book:
            told_turns = tuple(turn and (turn[0], tuple((names[one], other) for one, other in turn[1]),
                                         tuple((known, number, tuple((one, names[other]) for one, other in pairs))
                                               for known, number, pairs in turn[2])) for turn in turns)
            book.append((limit, common, tuple(renumbered(machine, names) for machine in machines), last, told_turns))
        self.lets(True, THREE, self.limit, book)
        self.denies([book[0]] + self.book[1:])

    def test_edges_among_states_from_which_nothing_is_read(self):
        dead = ((), ((80, (7, 7), 81), (81, (0, 3), 80), (81, (0, 3), 81)), ())
        book = [put_at(entry, (2,), tuple(joined(machine, dead) for machine in entry[2])) for entry in self.book]
        self.lets(True, THREE, self.limit, book)
        self.assertTrue(all(is_machine(machine) and not living(machine) & {80, 81} for entry in book for machine in entry[2]))
        book = [put_at(entry, (2, 0), joined(entry[2][0], dead)) for entry in self.book]
        self.lets(True, THREE, self.limit, book)
        self.denies([book[0]] + self.book[1:])
        # Also put to a book that isn't let by nothing changes.
        wrong = put_at(self.book, (0, 4, 0, 1), ())
        self.denies([put_at(entry, (2,), tuple(joined(machine, dead) for machine in entry[2])) for entry in wrong])
        # And to the turns' machines.
        self.lets(True, THREE, self.limit, put_at(self.book, (0, 4, 0, 0), joined(self.book[0][4][0][0], dead)))

    def test_one_thing_otherwise_by_chance(self):
        chance = random.Random(46)
        kinds = {True: 0, False: 0}
        for more, program in faulty_programs(47, 60):
            limit = some_limit(more, program, 3)
            kind, book = told(program, limit)
            if kind == "book" and len(book) <= 12:
                for count in range(25):
                    thing = changed_by_chance(chance, book)
                    wanted = let_by_plainly(program, limit, thing)
                    kinds[wanted] += 1
                    self.assertIs(lets_book(program, limit, thing), wanted)
        self.assertGreater(min(kinds.values()), 30)

    def test_what_is_handed_in_stays(self):
        kept = [tuple(entry) for entry in self.book]
        self.assertIs(lets_book(program=THREE, limit=self.limit, thing=self.book), True)
        self.assertEqual(self.book, kept)
        self.assertTrue(states_in(self.book[0][2][0]))


class Refusals(unittest.TestCase):
    def test_no_program_then_no_limit(self):
        book = book_for(THREE, 1)
        for thing in anything():
            with self.assertRaises(NoProgram):
                lets_book(thing, thing, thing)
            with self.assertRaises(NoLimit):
                lets_book(THREE, thing, thing)
            with self.assertRaises(NoLimit):
                lets_book(THREE, thing, book)

    def test_limits_without_an_end(self):
        safe = of_hands([[BACK]], [[BACK]])
        self.assertIs(lets_book(safe, (None, (None, None)), book_for(safe, 2)), False)


if __name__ == "__main__":
    unittest.main()

"""Without a clerk (12.1, 12.2)."""

import random
import unittest
from itertools import combinations

from lastoflot.books import Book
from lastoflot.errors import NoCrowd, NoLooks, NoPerson, NoState, TooMany
from lastoflot.looks import is_looks, is_quiet, looked, looked_through, most_looks
from lastoflot.offices import Office, let_in
from tests import plain
from tests.plain import Checks, strange

PAIRS = Book(3, ((0, 1), (1, 2)))
ROW = Office(PAIRS, (0, 1, 2))
NINE = Office(Book(9, ((0, 1), (1, 2))), tuple(range(9)))


def look(office, state, person):
    """The state behind a look."""
    for lot in office.book.lots:
        if plain.last(office.order, lot) == person and set(lot) - {person} <= set(state):
            return plain.left(state, (person,))
    return plain.joined(state, (person,))


def within(crowd):
    return [part for size in range(len(crowd) + 1) for part in combinations(crowd, size)]


def longest(office, crowd, state, known):
    """The most looks that change something, from a state, by going through all of them."""
    if state not in known:
        behind = [look(office, state, person) for person in crowd]
        known[state] = max([0] + [1 + longest(office, crowd, other, known) for other in behind if other != state])
    return known[state]


def is_plain_looks(office, crowd, state, row):
    for person in row:
        other = look(office, state, person)
        if other == state:
            return False
        state = other
    return True


class LookedTest(Checks, unittest.TestCase):
    def test_going_through(self):
        for office in plain.some_offices(3, 151):
            for crowd in plain.crowds(office.book.people):
                for state in within(crowd):
                    for person in crowd:
                        told = (office.book.lots, office.order, crowd, state, person)
                        self.assertEqual(looked(office, crowd, state, person), look(office, state, person), told)

    def test_named(self):
        whole = (0, 1, 2)
        self.assertEqual(looked(ROW, whole, (), 2), (2,))
        self.assertEqual(looked(ROW, whole, (0,), 1), (0,))
        self.assertEqual(looked(ROW, whole, (0, 1), 1), (0,))
        self.assertEqual(looked(ROW, whole, (0, 1), 0), (0, 1))
        self.assertEqual(looked(ROW, whole, (1, 2), 0), (0, 1, 2))
        self.assertEqual(looked(ROW, (1, 2), (1, 2), 2), (1,))
        # Who is the last of a lot of more must have all others in.
        office = Office(Book(3, ((0, 1, 2),)), (2, 0, 1))
        self.assertEqual(looked(office, whole, (0,), 1), (0, 1))
        self.assertEqual(looked(office, whole, (0, 2), 1), (0, 2))
        self.assertEqual(looked(office, whole, (0, 1, 2), 1), (0, 2))
        self.assertEqual(looked(office, whole, (0, 1, 2), 2), (0, 1, 2))

    def test_looked_through(self):
        rand = random.Random(152)
        for office in plain.some_offices(3, 153) + plain.great_offices():
            for _ in range(20):
                crowd = plain.random_crowd(rand, office.book.people)
                state = tuple(person for person in crowd if rand.random() < 0.5)
                row = tuple(rand.choice(crowd) for _ in range(rand.randint(0, 12) if crowd else 0))
                wanted = state
                for person in row:
                    wanted = look(office, wanted, person)
                self.assertEqual(looked_through(office, crowd, state, row), wanted)
                if len(row) == 1:
                    self.assertEqual(looked(office, crowd, state, row[0]), wanted)

    def test_none_and_often(self):
        self.assertEqual(looked_through(ROW, (0, 1, 2), (1, 2), ()), (1, 2))
        self.assertEqual(looked_through(ROW, (), (), ()), ())
        self.assertEqual(looked_through(ROW, (0, 1), (), (1, 1, 0, 1)), (0,))
        self.assertEqual(looked_through(ROW, (0, 1), (), (1, 1, 0)), (0, 1))

    def test_end(self):
        # As often through all as they are, each time in any order: those let in are there at the end.
        rand = random.Random(154)
        for office in plain.some_offices(2, 155) + plain.great_offices():
            inside = plain.let_in(office.book.lots, office.order, tuple(range(office.book.people)))
            crowds = [(tuple(range(office.book.people)), inside)]
            for _ in range(4):
                crowd = plain.random_crowd(rand, office.book.people)
                crowds.append((crowd, plain.let_in(office.book.lots, office.order, crowd)))
            for crowd, wanted in crowds:
                states = within(crowd)
                for state in rand.sample(states, min(12, len(states))):
                    row = ()
                    for _ in crowd:
                        row += tuple(rand.sample(crowd, len(crowd)))
                    self.assertEqual(looked_through(office, crowd, state, row), wanted)

    def test_from_every_state(self):
        rand = random.Random(156)
        for office in plain.some_offices(2, 157):
            crowd = tuple(range(office.book.people))
            wanted = let_in(office, crowd)
            for state in within(crowd):
                row = sum([tuple(rand.sample(crowd, len(crowd))) for _ in crowd], ())
                self.assertEqual(looked_through(office, crowd, state, row), wanted)
                behind = tuple(reversed(office.order)) * len(crowd)
                self.assertEqual(looked_through(office, crowd, state, behind), wanted)
                self.assertEqual(looked_through(office, crowd, state, office.order), wanted)

    def test_two_hundred(self):
        self.assertEqual(looked_through(ROW, (0, 1, 2), (1,), (1,) * 198 + (0, 1)), (0,))
        self.assertEqual(looked_through(ROW, (0, 1, 2), (1,), (1,) * 199 + (0,)), (0, 1))
        self.assertEqual(looked_through(ROW, (0, 1, 2), (1,), (2, 1, 0, 1) * 50), (0, 2))
        self.assertEqual(looked_through(ROW, (0,), (), (0,) * 200), (0,))
        for row in ((0,) * 201, (2, 1, 0, 1) * 50 + (2,), (0,) * 20000, (3,) * 201):
            self.raises(NoLooks, looked_through, ROW, (0, 1, 2), (1,), row)

    def test_no_crowd(self):
        for wrong in plain.bad_crowds(3):
            for state in ((), (0,), None):
                self.raises(NoCrowd, looked, ROW, wrong, state, None)
                self.raises(NoCrowd, looked, ROW, wrong, state, 0)
                self.raises(NoCrowd, looked_through, ROW, wrong, state, None)
                self.raises(NoCrowd, looked_through, ROW, wrong, state, ())
            self.raises(NoCrowd, is_quiet, ROW, wrong, ())
            self.raises(NoCrowd, is_quiet, ROW, wrong, None)

    def test_no_state(self):
        for wrong in plain.bad_crowds(3) + [(1,), (0, 1), (1, 2), (0, 1, 2), [0], (False,)]:
            for person in (0, None, 1):
                self.raises(NoState, looked, ROW, (0, 2), wrong, person)
            for row in ((), (0, 2), None, (1,)):
                self.raises(NoState, looked_through, ROW, (0, 2), wrong, row)
        self.raises(NoState, looked, ROW, (), (0,), 0)
        self.assertEqual(looked(ROW, (0, 2), (0, 2), 2), (0, 2))

    def test_no_person(self):
        for wrong in plain.bad_persons(3) + [1, True, False, (0,), "0"]:
            self.raises(NoPerson, looked, ROW, (0, 2), (0,), wrong)
            self.raises(NoPerson, looked, ROW, (), (), wrong)
        self.raises(NoPerson, looked, ROW, (0, 1), (0,), True)

    def test_no_looks(self):
        wrong = [[0], [], (1,), (0, 1), (0, 3), (-1,), (False,), (0, "2"), (0, None), {0: 2}, {}, "02", "", 0, None, ((0,),),
                 (0, 2, True), iter((0, 2)), (0, 10 ** 59)]
        for thing in wrong + strange():
            if thing != (0, 0):
                self.raises(NoLooks, looked_through, ROW, (0, 2), (0,), thing)
                self.raises(NoLooks, looked_through, ROW, (), (), thing)
        self.raises(NoLooks, looked_through, ROW, (0, 1), (0,), (0, True))
        self.raises(NoLooks, looked_through, ROW, (), (), (0,))


class QuietTest(Checks, unittest.TestCase):
    def test_going_through(self):
        for office in plain.some_offices(4, 158):
            for crowd in plain.crowds(office.book.people):
                inside = plain.let_in(office.book.lots, office.order, crowd)
                for state in plain.crowds(office.book.people):
                    told = (office.book.lots, office.order, crowd, state)
                    quiet = plain.within(state, crowd) and all(look(office, state, one) == state for one in crowd)
                    self.same_flag(quiet, is_quiet(office, crowd, state), told)
                    self.assertEqual(quiet, state == inside, told)

    def test_great(self):
        rand = random.Random(159)
        for office in plain.great_offices():
            for _ in range(10):
                crowd = plain.random_crowd(rand, office.book.people)
                inside = let_in(office, crowd)
                self.accepts(is_quiet, office, crowd, inside)
                for person in crowd:
                    other = plain.left(inside, (person,)) if person in inside else plain.joined(inside, (person,))
                    self.refuses(is_quiet, office, crowd, things=[other])

    def test_wrong_things(self):
        self.accepts(is_quiet, ROW, (0, 1, 2), (0, 2))
        wrong = [[0, 2], (False, 2), (2, 0), (0, 2, 3), (0, 0, 2), ("0", "2"), (0,), (2,), (), (0, 1, 2), (1,), {0: 0, 2: 2},
                 ((0, 2),), (0, 2, None), "02"]
        self.refuses(is_quiet, ROW, (0, 1, 2), things=wrong + strange())
        self.refuses(is_quiet, ROW, (0,), things=[(0, 2), (), (1,), [0], (False,)])
        self.refuses(is_quiet, ROW, (), things=[(0,), [], None, (1,)] + strange())
        self.accepts(is_quiet, ROW, (), ())


class MostLooksTest(Checks, unittest.TestCase):
    def told(self, office, crowd):
        known = {}
        wanted = max(longest(office, crowd, state, known) for state in within(crowd))
        found = most_looks(office, crowd)
        told = (office.book.lots, office.order, crowd, found)
        self.assertIsInstance(found, tuple)
        state, row = found
        self.assertTrue(plain.is_plain_crowd(office.book.people, state) and plain.within(state, crowd), told)
        self.assertIsInstance(row, tuple)
        self.assertTrue(all(person in crowd for person in row), told)
        self.assertEqual(len(row), wanted, told)
        self.assertTrue(is_plain_looks(office, crowd, state, row), told)
        self.accepts(is_looks, office, crowd, found)
        return wanted

    def test_going_through(self):
        counts = []
        for office in plain.some_offices(4, 161):
            for crowd in plain.crowds(office.book.people):
                counts.append((len(crowd), self.told(office, crowd)))
        self.assertLessEqual({(0, 0), (1, 1), (2, 2), (2, 3), (3, 3), (3, 5)}, set(counts))

    def test_many(self):
        rand = random.Random(162)
        for many in (6, 9, 12):
            book = plain.random_book(rand, 8, many)
            office = Office(book, tuple(rand.sample(range(8), 8)))
            self.told(office, tuple(range(8)))
        pairs = Office(Book(8, tuple(combinations(range(8), 2))), tuple(range(8)))
        self.assertEqual(self.told(pairs, tuple(range(8))), 15)
        row = Office(Book(8, tuple((k, k + 1) for k in range(7))), tuple(range(8)))
        self.assertEqual(self.told(row, tuple(range(8))), 36)

    def test_great(self):
        rand = random.Random(163)
        for office in plain.great_offices():
            for size in (3, 6, 8):
                self.told(office, tuple(sorted(rand.sample(range(office.book.people), size))))

    def test_too_many(self):
        self.told(NINE, tuple(range(8)))
        self.told(NINE, tuple(range(1, 9)))
        self.raises(TooMany, most_looks, NINE, tuple(range(9)), most=8)
        twelve = Office(Book(12, ()), tuple(range(12)))
        self.raises(TooMany, most_looks, twelve, tuple(range(12)), most=8)
        self.assertEqual(len(most_looks(twelve, tuple(range(3, 11)))[1]), 8)
        for wrong in plain.bad_crowds(9):
            self.raises(NoCrowd, most_looks, NINE, wrong)
        self.raises(NoCrowd, most_looks, NINE, tuple(range(10)))
        # Any number of looks of any crowd is judged.
        self.accepts(is_looks, twelve, tuple(range(12)), ((), tuple(range(12))))
        self.refuses(is_looks, twelve, tuple(range(12)), things=[((), tuple(range(12)) + (0,)), ((0,), (0,))])

    def test_is_looks_going_through(self):
        rand = random.Random(164)
        flags = []
        for office in plain.some_offices(4, 165):
            for _ in range(60):
                crowd = plain.random_crowd(rand, office.book.people)
                state = tuple(person for person in crowd if rand.random() < 0.5)
                row = tuple(rand.choice(crowd) for _ in range(rand.randint(0, 4) if crowd else 0))
                wanted = is_plain_looks(office, crowd, state, row)
                flags.append((len(row), wanted))
                self.same_flag(wanted, is_looks(office, crowd, (state, row)), office.book.lots, crowd, state, row)
        self.assertLessEqual({(0, True), (1, True), (1, False), (2, True), (3, True), (3, False)}, set(flags))

    def test_wrong_things(self):
        whole = (0, 1, 2)
        for right in (((), ()), ((), (1,)), ((1,), (0, 1, 2)), ((), (2, 1, 2, 0, 1, 2)), ((0, 1, 2), (2, 1, 2))):
            self.accepts(is_looks, ROW, whole, right)
        wrong = [
            [(), (1,)], ([], (1,)), ((), [1]), ((), (True,)), ((True,), (0,)), ((False,), (2,)), ((1,),), ((), (1,), ()),
            ((), (1, 1)), ((0,), (0,)), ((0,), (1,)), ((), (2, 2)), ((1,), (2,)), ((1, 0), (2,)), ((), (3,)), ((), (-1,)),
            ((3,), (0,)), ((), ("1",)), ((), 1), (None, (1,)), ((), None), ((), ((1,),)), ((1, 1), (0,)), ((), {1: 1}),
            ((), (1, None)), ((0, 2), (0,)), ((0, 2), (1,)), ((0, 2), (2,)), ((), (0, 1)), ((), (0, 2, 0)), {(): (1,)},
            ((), (0,) * 9000), ((), (1,) + (0,) * 9000),
        ]
        judged = strange()
        judged.remove(((), ()))
        self.refuses(is_looks, ROW, whole, things=wrong + judged)
        self.accepts(is_looks, ROW, (0, 2), ((0,), (2,)))
        self.refuses(is_looks, ROW, (0, 2), things=[((1,), (0,)), ((0,), (1,)), ((0, 1), (2,)), ((0,), (2, 1))])
        self.refuses(is_looks, ROW, (), things=[((), (0,)), ((0,), ())] + judged)

    def test_no_crowd(self):
        for wrong in plain.bad_crowds(3):
            self.raises(NoCrowd, most_looks, ROW, wrong)
            self.raises(NoCrowd, is_looks, ROW, wrong, ((), ()))
            self.raises(NoCrowd, is_looks, ROW, wrong, None)

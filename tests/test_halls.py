"""Halls (16.1, 16.2)."""

import random
import unittest
from itertools import combinations, product

from lastoflot.books import Book
from lastoflot.choosers import bar_to_offices, is_bar_to_offices, office_of
from lastoflot.errors import NoCrowd, NoHalls, OtherPeople, TooMany
from lastoflot.halls import as_one, bar_to_one, halls_parting, housed, seated
from lastoflot.offices import Office, let_in
from tests import plain
from tests.plain import Checks, strange

ROW = Office(Book(3, ((0, 1), (1, 2))), (0, 1, 2))
ALL = Office(Book(3, ((0, 1), (0, 2), (1, 2))), (2, 1, 0))
FREE = Office(Book(3, ()), (0, 1, 2))
FOUR = Office(Book(4, ()), (0, 1, 2, 3))
# Pairs of the lots and the list of one hall and of the next one.
NO_OFFICES = [
    ((((0, 1), (0, 2), (0, 3), (2, 3)), (2, 0, 1, 3)), (((1, 3),), (1, 3, 0, 2))),
    ((((0, 1), (0, 2), (0, 3)), (2, 0, 3, 1)), (((0, 3), (1, 3), (2, 3)), (3, 1, 0, 2))),
    ((((0, 1, 3), (0, 2), (1, 2), (2, 3)), (3, 2, 0, 1)), (((0, 1), (0, 3), (1, 2), (1, 3)), (1, 2, 0, 3))),
    ((tuple(combinations(range(4), 2)), (3, 2, 0, 1)), (((0, 1), (0, 2), (1, 3), (2, 3)), (1, 0, 3, 2))),
    ((((0, 1, 2), (0, 3), (1, 3), (2, 3)), (1, 3, 0, 2)), (((0, 1), (0, 2), (2, 3)), (1, 2, 0, 3))),
    ((((0, 3), (1, 2), (1, 3, 4), (2, 4)), (0, 1, 2, 4, 3)), (((2, 3), (3, 4)), (1, 0, 3, 4, 2))),
]
NO_HALLS = [[], (), [ROW] * 5, (ROW,) * 5, ROW, [ROW, FOUR], (FOUR, ROW), [ROW, ROW, ROW, FOUR], [ROW, None], [None],
            [ROW.book], (ROW, ROW.book), {0: ROW}, {ROW.order: ROW}, [[ROW]], ((ROW,),), [ROW, [ROW]], [Office], None,
            (ROW, True), [FOUR, ROW, FOUR], ROW.book, [ROW] * 20000]


def plain_seated(halls, crowd):
    found = []
    for hall in halls:
        found.append(plain.let_in(hall.book.lots, hall.order, crowd))
        crowd = plain.left(crowd, found[-1])
    return found


def plain_housed(halls, crowd):
    return tuple(sorted(sum(plain_seated(halls, crowd), ())))


def some_halls(seed, each=3, most=5):
    """Halls of one to four offices."""
    rand = random.Random(seed)
    found = []
    for people in range(1, most + 1):
        for many in (1, 2, 3, 4):
            for _ in range(each):
                books = [plain.random_book(rand, people, rand.randint(0, 7)) for _ in range(many)]
                offices = [Office(book, tuple(rand.sample(range(people), people))) for book in books]
                found.append(rand.choice((list, tuple))(offices))
    return found


class SeatedTest(Checks, unittest.TestCase):
    def test_going_through(self):
        for halls in some_halls(211):
            for crowd in plain.crowds(halls[0].book.people):
                found = seated(halls, crowd)
                self.assertEqual(found, plain_seated(halls, crowd))
                self.assertIsInstance(found, list)
                self.assertEqual(housed(halls, crowd), plain_housed(halls, crowd))

    def test_great_ones(self):
        rand = random.Random(212)
        offices = plain.great_offices(213) + plain.great_offices(214) + plain.great_offices(215)
        for office in offices:
            halls = [other for other in offices if other.book.people == office.book.people][:4]
            for _ in range(10):
                crowd = plain.random_crowd(rand, office.book.people)
                self.assertEqual(seated(halls, crowd), plain_seated(halls, crowd))
                self.assertEqual(housed(tuple(halls), crowd), plain_housed(halls, crowd))

    def test_named(self):
        whole = (0, 1, 2)
        self.assertEqual(seated([ROW], whole), [(0, 2)])
        self.assertEqual(seated([ROW, ROW], whole), [(0, 2), (1,)])
        self.assertEqual(seated((ALL, ROW), whole), [(2,), (0,)])
        self.assertEqual(housed((ALL, ROW), whole), (0, 2))
        self.assertEqual(seated([ALL, ALL, ALL, ALL], whole), [(2,), (1,), (0,), ()])
        self.assertEqual(housed([ALL, ALL, ALL, ALL], whole), whole)
        self.assertEqual(seated([FREE, ALL], whole), [whole, ()])
        self.assertEqual(seated([ROW, ALL], ()), [(), ()])
        self.assertEqual(housed([ROW, ALL], ()), ())
        self.assertEqual(seated([Office(Book(1, ()), (0,))], (0,)), [(0,)])
        self.is_new(seated, [ROW, ALL], whole)

    def test_one_hall_is_an_office(self):
        for office in plain.some_offices(2, 216):
            for crowd in plain.crowds(office.book.people):
                self.assertEqual(housed([office], crowd), let_in(office, crowd))

    def test_arguments_stay(self):
        halls = [ROW, ALL, FREE]
        for call in (seated, housed):
            self.leaves(call, halls, (0, 1, 2))
        self.leaves(halls_parting, halls, [FREE])
        self.leaves(as_one, halls)
        self.leaves(bar_to_one, halls)

    def test_no_halls(self):
        for wrong in NO_HALLS + strange():
            for crowd in ((), (0,), None, [0]):
                self.raises(NoHalls, seated, wrong, crowd)
                self.raises(NoHalls, housed, wrong, crowd)
            self.raises(NoHalls, as_one, wrong)
            self.raises(NoHalls, bar_to_one, wrong)
            for other in ([ROW], [FOUR], None, wrong, [Office(Book(11, ()), tuple(range(11)))]):
                self.raises(NoHalls, halls_parting, wrong, other)
                self.raises(NoHalls, halls_parting, other, wrong)

    def test_no_crowd(self):
        for halls in ([ROW], (ROW, ALL), [FREE] * 4):
            for wrong in plain.bad_crowds(3):
                self.raises(NoCrowd, seated, halls, wrong)
                self.raises(NoCrowd, housed, halls, wrong)


class PartingTest(Checks, unittest.TestCase):
    def plain_parting(self, one, other):
        for crowd in plain.crowds(one[0].book.people):
            if plain_housed(one, crowd) != plain_housed(other, crowd):
                return crowd
        return None

    def test_going_through(self):
        rand = random.Random(217)
        every = some_halls(218, 4, 4)
        kinds = set()
        for people in (1, 2, 3, 4):
            some = [halls for halls in every if halls[0].book.people == people]
            for one, other in rand.sample(list(product(some, repeat=2)), 60):
                wanted = self.plain_parting(one, other)
                self.assertEqual(halls_parting(one, other), wanted)
                kinds.add(wanted is None)
            for halls in some:
                self.assertIsNone(halls_parting(halls, tuple(halls)))
        self.assertEqual(kinds, {True, False})

    def test_many_people(self):
        rand = random.Random(219)
        for people in (7, 10):
            for _ in range(2):
                books = [plain.random_book(rand, people, 6) for _ in range(3)]
                one = [Office(book, tuple(rand.sample(range(people), people))) for book in books]
                self.assertIsNone(halls_parting(one, list(one)))
                other = [one[1], one[0], one[2]]
                self.assertEqual(halls_parting(one, other), self.plain_parting(one, other))

    def test_named(self):
        self.assertEqual(halls_parting([ROW], [FREE]), (0, 1))
        self.assertIsNone(halls_parting([ROW, ROW], (FREE,)))
        self.assertEqual(halls_parting([ALL, ALL], [FREE]), (0, 1, 2))
        self.assertIsNone(halls_parting([FREE, ROW], [FREE, ALL]))
        self.assertEqual(halls_parting((ROW,), [ALL]), (0, 1))
        # The last one alone makes the difference.
        self.assertEqual(halls_parting([ALL, ALL, FREE], [ALL, ALL, ALL]), None)
        self.assertEqual(halls_parting([ALL, FREE], [ALL, ROW]), (0, 1, 2))

    def test_errors(self):
        ten, eleven, twelve = (Office(Book(people, ((0, 1),)), tuple(range(people))) for people in (10, 11, 12))
        self.assertEqual(halls_parting([ten], [Office(Book(10, ()), ten.order)]), (0, 1))
        self.assertIsNone(halls_parting([ten, ten], [ten, ten, ten]))
        for office in (eleven, twelve):
            self.raises(TooMany, halls_parting, [office], [office], most=10)
            self.raises(OtherPeople, halls_parting, [office], [ten])
            self.raises(OtherPeople, halls_parting, [ROW], (office, office))
        self.raises(OtherPeople, halls_parting, [eleven], [twelve])
        self.raises(OtherPeople, halls_parting, [ROW, ALL], [FOUR])
        self.raises(NoHalls, halls_parting, [eleven], [twelve, eleven])


class AsOneTest(Checks, unittest.TestCase):
    def told(self, halls):
        """Checks both against who is housed from every crowd; returns whether it is one office."""
        people = halls[0].book.people
        chooser = {crowd: plain_housed(halls, crowd) for crowd in plain.crowds(people)}
        found, bar = as_one(halls), bar_to_one(halls)
        self.assertEqual(found is None, bar is not None)
        if found is None:
            self.accepts(is_bar_to_offices, people, chooser, bar)
            self.assertIsNone(office_of(people, chooser))
            return False
        self.assertIsInstance(found, Office)
        self.assertEqual(plain.ins(found), chooser)
        table = plain.table(found.book.lots, found.order)
        least = next(order for order in plain.lists(people) if plain.table(found.book.lots, order) == table)
        self.assertEqual(found.order, least)
        self.assertIsNone(bar_to_offices(people, chooser))
        return True

    def test_going_through(self):
        for halls in some_halls(220, 6):
            self.told(halls)

    def test_no_office(self):
        for one, other in NO_OFFICES:
            halls = [Office(Book(len(order), lots), order) for lots, order in (one, other)]
            self.assertFalse(self.told(halls))

    def test_six_and_seven(self):
        rand = random.Random(221)
        for many in (1, 2, 3):
            books = [plain.random_book(rand, 6, 4) for _ in range(many)]
            self.told([Office(book, tuple(rand.sample(range(6), 6))) for book in books])
        for people in (7, 10, 11, 12):
            office = Office(Book(people, ()), tuple(range(people)))
            for call in (as_one, bar_to_one):
                self.raises(TooMany, call, [office], most=6)
                self.raises(TooMany, call, (office, office), most=6)
                self.raises(NoHalls, call, [office] * 5)
                self.raises(NoHalls, call, (office, ROW))
                self.raises(NoHalls, call, office)

    def test_named(self):
        self.assertEqual(as_one([ROW]), ROW)
        self.assertEqual(as_one([Office(ROW.book, (0, 2, 1)), Office(ROW.book, (0, 2, 1))]), FREE)
        self.assertEqual(as_one((ALL, ALL)), Office(Book(3, ((0, 1, 2),)), (1, 2, 0)))
        self.assertEqual(as_one([Office(Book(3, ((0, 1),)), (2, 1, 0))]).order, (1, 0, 2))
        # Who alone is seated in the second hall may well not be in it with somebody seated in the first one.
        other = Office(Book(3, ((0, 1), (0, 2), (1, 2))), (0, 1, 2))
        halls = [other, Office(Book(3, ((1, 2),)), (0, 2, 1))]
        self.assertTrue(self.told(halls))
        halls = [Office(Book(4, ((0, 1), (1, 2), (2, 3))), (0, 1, 2, 3)), Office(Book(4, ((0, 2), (1, 3))), (3, 2, 1, 0))]
        self.told(halls)

"""Editions (17.1, 17.2)."""

import random
import unittest
from itertools import combinations

from lastoflot.books import Book
from lastoflot.editions import harmed, named, raised, with_lot, without_lot
from lastoflot.errors import NoList, NoLot, NoNumber, NoPerson, NoPlace, OtherPeople, TooMany
from lastoflot.offices import Office, let_in
from tests import plain
from tests.plain import Checks, strange

PAIRS = Book(3, ((0, 1), (1, 2)))
ROW = Office(PAIRS, (0, 1, 2))
TWELVE_PAIRS = tuple(combinations(range(12), 2))


class LotTest(Checks, unittest.TestCase):
    def test_with_lot(self):
        for book in plain.fair_books():
            for lot in plain.crowds(book.people):
                if len(lot) < 2 or not plain.is_clear(book.lots, lot):
                    self.raises(NoLot, with_lot, book, lot)
                else:
                    found = self.leaves(with_lot, book, lot)
                    self.assertIsInstance(found, Book)
                    self.assertEqual((found.people, found.lots), (book.people, plain.least_ones((*book.lots, lot))))
                    self.assertIn(lot, found.lots)

    def test_clear_crowds(self):
        # Clear with the new lot is what was clear and has it not within it.
        for book in plain.fair_books()[::3]:
            for lot in plain.crowds(book.people):
                if len(lot) >= 2 and plain.is_clear(book.lots, lot):
                    lots = with_lot(book, lot).lots
                    for crowd in plain.crowds(book.people):
                        wanted = plain.is_clear(book.lots, crowd) and not plain.within(lot, crowd)
                        self.assertEqual(plain.is_clear(lots, crowd), wanted)

    def test_named(self):
        book = Book(4, ((0, 1, 2), (0, 1, 3), (2, 3)))
        self.assertEqual(with_lot(book, (0, 1)).lots, ((0, 1), (2, 3)))
        self.assertEqual(with_lot(book, (0, 2)).lots, ((0, 1, 3), (0, 2), (2, 3)))
        self.assertEqual(with_lot(PAIRS, (0, 2)).lots, ((0, 1), (0, 2), (1, 2)))
        self.assertEqual(with_lot(Book(2, ()), (0, 1)), Book(2, ((0, 1),)))
        self.assertEqual(with_lot(Book(3, ((0, 1, 2),)), (0, 2)), Book(3, ((0, 2),)))
        for lot in ((0, 1), (1, 2), (0, 1, 2), (0,), (), (0, 3), (1, 0), [0, 2], (False, 2), (0, 0)):
            self.raises(NoLot, with_lot, PAIRS, lot)

    def test_no_lot(self):
        for book in (PAIRS, Book(3, ()), Book(3, ((0, 1, 2),)), Book(1, ()), Book(12, TWELVE_PAIRS[:60])):
            for wrong in plain.bad_crowds(book.people) + [(), (0,), 0, None, "01", [0, 1], (True, 2), (0, "1")]:
                self.raises(NoLot, with_lot, book, wrong)

    def test_sixty(self):
        full = Book(12, TWELVE_PAIRS[:60])
        for lot in TWELVE_PAIRS[60:]:
            self.raises(TooMany, with_lot, full, lot, most=60)
            self.assertEqual(with_lot(without_lot(full, 7), lot).lots, TWELVE_PAIRS[:7] + TWELVE_PAIRS[8:60] + (lot,))
        for lot in TWELVE_PAIRS[:60]:
            self.raises(NoLot, with_lot, full, lot)
        less = Book(12, TWELVE_PAIRS[:59])
        self.assertEqual(with_lot(less, (10, 11)).lots, TWELVE_PAIRS[:59] + ((10, 11),))
        # With 60 lots one more is right if it takes the place of one or more of them.
        triples = Book(12, tuple(combinations(range(12), 3))[:60])
        self.assertEqual(with_lot(triples, (0, 1)).lots, ((0, 1),) + triples.lots[10:])
        self.assertEqual(len(with_lot(triples, (8, 9)).lots), 60)
        self.raises(TooMany, with_lot, triples, (9, 10, 11), most=60)
        self.raises(TooMany, with_lot, triples, (8, 9, 10, 11), most=60)

    def test_without_lot(self):
        for book in plain.fair_books() + plain.great_books():
            for number in range(len(book.lots)):
                found = self.leaves(without_lot, book, number)
                self.assertIsInstance(found, Book)
                self.assertEqual(found.people, book.people)
                self.assertEqual(found.lots, tuple(lot for lot in book.lots if lot != book.lots[number]))

    def test_no_number(self):
        for book in (PAIRS, Book(3, ()), Book(3, ((0, 1, 2),))):
            wrong = [thing for thing in strange() if not plain.is_plain_number(thing) or not 0 <= thing < len(book.lots)]
            for number in wrong + [len(book.lots), -1, 60, "0", (0,), (0, 1), True, False]:
                self.raises(NoNumber, without_lot, book, number)

    def test_back_and_forth(self):
        for book in plain.fair_books():
            for number, lot in enumerate(book.lots):
                self.assertEqual(with_lot(without_lot(book, number), lot), book)


class RaisedTest(Checks, unittest.TestCase):
    def test_each_place(self):
        for office in plain.some_offices(2, 231) + plain.great_offices():
            people = office.book.people
            for person in range(people):
                others = [other for other in office.order if other != person]
                for place in range(people):
                    found = self.leaves(raised, office, person, place)
                    self.assertIsInstance(found, Office)
                    self.assertEqual(found.book, office.book)
                    self.assertEqual(found.order[place], person)
                    self.assertEqual([other for other in found.order if other != person], others)

    def test_named(self):
        self.assertEqual(raised(ROW, 2, 0).order, (2, 0, 1))
        self.assertEqual(raised(ROW, 0, 2).order, (1, 2, 0))
        self.assertEqual(raised(ROW, 1, 1), ROW)
        self.assertEqual(raised(Office(Book(1, ()), (0,)), 0, 0).order, (0,))

    def test_errors(self):
        for person in plain.bad_persons(3):
            for place in (0, 2, 3, None, -1):
                self.raises(NoPerson, raised, ROW, person, place)
        for place in plain.bad_persons(3):
            for person in (0, 2):
                self.raises(NoPlace, raised, ROW, person, place)
        self.raises(NoPlace, raised, Office(Book(1, ()), (0,)), 0, 1)


class NamedTest(Checks, unittest.TestCase):
    def test_each_list(self):
        for office in plain.some_offices(1, 232):
            people = office.book.people
            for order in plain.lists(people):
                found = self.leaves(named, office, order)
                self.assertEqual(found.order, tuple(order[person] for person in office.order))
                self.assertEqual(found.book, Book(people, plain.least_ones([
                    tuple(sorted(order[person] for person in lot)) for lot in office.book.lots])))

    def test_letting_in(self):
        rand = random.Random(233)
        for office in plain.some_offices(2, 234) + plain.great_offices():
            people = office.book.people
            for _ in range(4):
                order = tuple(rand.sample(range(people), people))
                other = named(office, order)
                crowds = [plain.random_crowd(rand, people) for _ in range(12)] + [tuple(range(people))]
                for crowd in crowds:
                    called = tuple(sorted(order[person] for person in crowd))
                    inside = let_in(office, crowd)
                    self.assertEqual(let_in(other, called), tuple(sorted(order[person] for person in inside)))

    def test_there_and_back(self):
        rand = random.Random(235)
        for office in plain.some_offices(2, 236):
            people = office.book.people
            order = tuple(rand.sample(range(people), people))
            back = tuple(order.index(person) for person in range(people))
            self.assertEqual(named(named(office, order), back), office)
            self.assertEqual(named(office, tuple(range(people))), office)

    def test_named(self):
        found = named(ROW, (1, 2, 0))
        self.assertEqual((found.book.lots, found.order), (((0, 2), (1, 2)), (1, 2, 0)))
        self.assertEqual(named(Office(PAIRS, (2, 0, 1)), (2, 0, 1)).order, (1, 2, 0))

    def test_no_list(self):
        for wrong in plain.bad_lists(3):
            self.raises(NoList, named, ROW, wrong)
        for wrong in plain.bad_lists(1):
            self.raises(NoList, named, Office(Book(1, ()), (0,)), wrong)


class HarmedTest(Checks, unittest.TestCase):
    def plain_harmed(self, one, other):
        inside, others = plain.ins(one), plain.ins(other)
        return tuple(sorted({person for crowd in inside for person in plain.left(inside[crowd], others[crowd])}))

    def test_going_through(self):
        rand = random.Random(237)
        every = plain.some_offices(3, 238)
        for people in (1, 2, 3, 4, 5):
            some = [office for office in every if office.book.people == people]
            for _ in range(40):
                one, other = rand.choice(some), rand.choice(some)
                self.assertEqual(self.leaves(harmed, one, other), self.plain_harmed(one, other))
        for office in every:
            self.assertEqual(harmed(office, office), ())

    def test_seventeenth_fact(self):
        harm = set()
        for office in plain.some_offices(2, 239):
            people = office.book.people
            for place, person in enumerate(office.order):
                for ahead in range(place):
                    other = raised(office, person, ahead)
                    self.assertNotIn(person, harmed(office, other))
                    self.assertEqual(harmed(office, other), self.plain_harmed(office, other))
                    harm.add(len(harmed(office, other)))
                for behind in range(place + 1, people):
                    self.assertNotIn(person, harmed(raised(office, person, behind), office))
        self.assertGreater(len(harm), 1)

    def test_named(self):
        self.assertEqual(harmed(ROW, Office(PAIRS, (1, 0, 2))), (0, 2))
        self.assertEqual(harmed(Office(PAIRS, (1, 0, 2)), ROW), (1,))
        self.assertEqual(harmed(Office(Book(3, ()), (0, 1, 2)), ROW), (1, 2))
        self.assertEqual(harmed(ROW, Office(Book(3, ()), (0, 1, 2))), ())
        # One who is out by a lot more lets in another one.
        self.assertEqual(harmed(ROW, Office(Book(3, ((1, 2),)), (0, 1, 2))), (2,))

    def test_errors(self):
        ten, eleven, twelve = (Office(Book(people, ((0, 1),)), tuple(range(people))) for people in (10, 11, 12))
        self.assertEqual(harmed(Office(Book(10, ()), ten.order), ten), (1,))
        for office in (eleven, twelve):
            self.raises(TooMany, harmed, office, office, most=10)
            self.raises(OtherPeople, harmed, office, ten)
            self.raises(OtherPeople, harmed, ROW, office)
        self.raises(OtherPeople, harmed, eleven, twelve)

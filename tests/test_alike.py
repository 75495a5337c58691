"""Alike offices (3.1, 3.2)."""

import random
import unittest
from itertools import combinations

from lastoflot.alike import alike, exchanged, is_steps, parting, steps
from lastoflot.books import Book
from lastoflot.errors import NoPlace, OtherBook, OtherPeople
from lastoflot.offices import Office
from tests import plain
from tests.plain import Checks, strange

FREE = Book(3, ())
STAR = Book(3, ((0, 1), (0, 2)))


def plain_parting(one, other):
    """The first crowd, fewest first, from which two offices let in unlike people, or None."""
    first, second = plain.ins(one), plain.ins(other)
    return next((crowd for crowd in first if first[crowd] != second[crowd]), None)


def is_dull(lots, order, k):
    """Whether the persons at two places are not the last two of a lot."""
    return not any([person for person in order if person in lot][-2:] == [order[k], order[k + 1]] for lot in lots)


def led(office, numbers):
    """The list to which dull exchanges lead, or None if one of them is not dull."""
    order = list(office.order)
    for k in numbers:
        if not is_dull(office.book.lots, order, k):
            return None
        order[k], order[k + 1] = order[k + 1], order[k]
    return tuple(order)


def otherwise(one, other):
    """How many pairs stand otherwise in two lists."""
    pairs = combinations(range(len(one)), 2)
    return sum((one.index(a) < one.index(b)) != (other.index(a) < other.index(b)) for a, b in pairs)


class AlikeTest(Checks, unittest.TestCase):
    def going_through(self, one, other):
        wanted = plain_parting(one, other)
        told = (one.book.lots, one.order, other.book.lots, other.order)
        self.same_flag(wanted is None, alike(one, other), told)
        self.assertEqual(parting(one, other), wanted, told)

    def test_one_book(self):
        for book in plain.small_books():
            orders = plain.lists(book.people)
            for one in orders[::3]:
                for other in orders:
                    self.going_through(Office(book, one), Office(book, other))

    def test_unlike_books(self):
        offices = plain.some_offices(2)
        for one in offices:
            for other in offices:
                if one.book.people == other.book.people:
                    self.going_through(one, other)

    def test_fewest_first(self):
        one = Office(Book(4, ((0, 1, 2), (2, 3))), (0, 1, 2, 3))
        other = Office(Book(4, ((0, 1, 2), (2, 3))), (0, 3, 2, 1))
        self.assertEqual(parting(one, other), (2, 3))
        self.assertEqual(parting(Office(FREE, (0, 1, 2)), Office(STAR, (0, 1, 2))), (0, 1))
        self.assertIsNone(parting(Office(FREE, (0, 1, 2)), Office(FREE, (2, 1, 0))))

    def test_great(self):
        for office in plain.great_offices():
            self.accepts(alike, office, Office(office.book, office.order))
            self.assertIsNone(parting(office, office))
            turned = Office(office.book, office.order[::-1])
            self.same_flag(False, alike(office, turned))
            crowd = parting(office, turned)
            least = min(office.book.lots, key=lambda lot: (len(lot), lot))
            self.assertEqual(crowd, least)

    def test_other_people(self):
        for call in (alike, parting):
            self.raises(OtherPeople, call, Office(FREE, (0, 1, 2)), Office(Book(2, ()), (0, 1)))
            self.raises(OtherPeople, call, Office(Book(2, ()), (0, 1)), Office(FREE, (0, 1, 2)))


class ExchangedTest(Checks, unittest.TestCase):
    def test_right(self):
        office = Office(STAR, (2, 0, 1))
        self.assertEqual(exchanged(office, 0), Office(STAR, (0, 2, 1)))
        self.assertEqual(exchanged(office, 1), Office(STAR, (2, 1, 0)))
        self.assertIsInstance(exchanged(office, 1), Office)
        self.assertEqual(office, Office(STAR, (2, 0, 1)))
        long = Office(Book(12, ()), tuple(range(12)))
        self.assertEqual(exchanged(long, 10).order, (0, 1, 2, 3, 4, 5, 6, 7, 8, 9, 11, 10))

    def test_no_place(self):
        for wrong in plain.bad_persons(2) + [2, 3, -1, -2]:
            self.raises(NoPlace, exchanged, Office(STAR, (2, 0, 1)), wrong)
        self.raises(NoPlace, exchanged, Office(Book(1, ()), (0,)), 0)


class StepsTest(Checks, unittest.TestCase):
    def leads(self, one, other):
        found = steps(one, other)
        if plain.table(one.book.lots, one.order) != plain.table(one.book.lots, other.order):
            self.assertIsNone(found)
            return
        self.assertIsInstance(found, tuple)
        self.assertEqual(led(one, found), other.order)
        self.assertEqual(len(found), otherwise(one.order, other.order))
        self.accepts(is_steps, one, other, found)

    def test_small(self):
        for book in plain.small_books():
            orders = plain.lists(book.people)
            for one in orders[::2]:
                for other in orders:
                    self.leads(Office(book, one), Office(book, other))

    def test_great(self):
        rand = random.Random(8)
        for office in plain.great_offices():
            order = office.order
            for _ in range(60):
                k = rand.randrange(len(order) - 1)
                if is_dull(office.book.lots, order, k):
                    order = order[:k] + (order[k + 1], order[k]) + order[k + 2:]
            self.leads(office, Office(office.book, order))
        free = Book(12, ())
        self.leads(Office(free, tuple(range(12))), Office(free, tuple(range(11, -1, -1))))

    def test_is_steps_going_through(self):
        for book in plain.small_books():
            if book.people == 3:
                for one in plain.lists(3):
                    for other in plain.lists(3):
                        self.judged(Office(book, one), Office(book, other))

    def judged(self, one, other):
        for thing in ((), (0,), (1,), (0, 1), (1, 0), (0, 0), (1, 1), (0, 1, 0), (1, 0, 1), (0, 0, 1, 1), (0, 1, 1, 0)):
            self.same_flag(led(one, thing) == other.order, is_steps(one, other, thing), one.order, other.order, thing)

    def test_few_and_many(self):
        one, other = Office(FREE, (0, 1, 2)), Office(FREE, (1, 0, 2))
        for many in (0, 1, 5, 9000):
            self.accepts(is_steps, one, other, (0,) + (1, 1) * many)
            self.refuses(is_steps, one, other, things=[(1, 1) * many])
        self.accepts(is_steps, one, one, ())
        self.accepts(is_steps, one, one, (0,) * 20000)

    def test_dull_where_done(self):
        book = Book(3, ((0, 1),))
        one, other = Office(book, (0, 1, 2)), Office(book, (0, 2, 1))
        self.accepts(is_steps, one, other, (1,))
        self.refuses(is_steps, one, other, things=[(0, 0, 1), (0, 1, 0)])
        triple = Book(3, ((0, 1, 2),))
        self.accepts(is_steps, Office(triple, (0, 1, 2)), Office(triple, (1, 0, 2)), (0,))
        self.refuses(is_steps, Office(triple, (0, 1, 2)), Office(triple, (0, 1, 2)), things=[(1, 1)])

    def test_wrong_things(self):
        one, other = Office(FREE, (0, 1, 2)), Office(FREE, (1, 0, 2))
        wrong = [[0], (2,), (-1,), (-2,), (False,), ("0",), (0, 2), (0, None), 0, None, (0, 10 ** 59), (0, -1), {0: 0},
                 (0, True, True), (0, True, 1)]
        self.refuses(is_steps, one, other, things=wrong)
        self.refuses(is_steps, one, other, things=strange())
        single = Office(Book(1, ()), (0,))
        self.accepts(is_steps, single, single, ())
        self.refuses(is_steps, single, single, things=[(0,), (0, 0), None])

    def test_other_book(self):
        for call in (steps, is_steps):
            more = ((),) if call is is_steps else ()
            self.raises(OtherBook, call, Office(FREE, (0, 1, 2)), Office(STAR, (0, 1, 2)), *more)
            self.raises(OtherBook, call, Office(FREE, (0, 1, 2)), Office(Book(2, ()), (0, 1)), *more)
        self.raises(OtherBook, is_steps, Office(FREE, (0, 1, 2)), Office(STAR, (0, 1, 2)), None)
        self.assertEqual(steps(Office(FREE, (0, 1, 2)), Office(Book(3, ()), (0, 1, 2))), ())

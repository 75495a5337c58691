"""Fellows (3.3)."""

import random
import unittest
from math import factorial

from lastoflot.alike import alike
from lastoflot.books import Book
from lastoflot.errors import NoList, NoNumber, NoPerson
from lastoflot.fellows import bound_pairs, fellow_at, fellow_number, many_fellows, may_stand
from lastoflot.offices import Office
from tests import plain
from tests.plain import Checks

ROW = Office(Book(3, ((0, 1), (0, 2))), (0, 1, 2))


def plain_fellows(office):
    """The ascending list of all lists with the same lasts."""
    lots = office.book.lots
    wanted = plain.table(lots, office.order)
    return [order for order in plain.lists(office.book.people) if plain.table(lots, order) == wanted]


class FellowsTest(Checks, unittest.TestCase):
    def test_going_through(self):
        for office in plain.some_offices(6):
            fellows = plain_fellows(office)
            told = (office.book.lots, office.order)
            self.assertEqual(many_fellows(office), len(fellows), told)
            self.assertEqual([fellow_at(office, k) for k in range(len(fellows))], fellows, told)
            self.assertEqual([fellow_number(office, order) for order in fellows], list(range(len(fellows))), told)

    def test_bound(self):
        for office in plain.some_offices(6):
            fellows = plain_fellows(office)
            people = range(office.book.people)
            pairs = [(a, b) for a in people for b in people
                     if a != b and all(order.index(a) < order.index(b) for order in fellows)]
            self.assertEqual(bound_pairs(office), pairs, (office.book.lots, office.order))
            for person in people:
                places = sorted({order.index(person) for order in fellows})
                self.assertEqual(may_stand(office, person), places, (office.book.lots, office.order, person))

    def test_bound_by_several(self):
        office = Office(Book(4, ((0, 1), (1, 2), (2, 3))), (3, 2, 1, 0))
        self.assertEqual(bound_pairs(office), [(1, 0), (2, 0), (2, 1), (3, 0), (3, 1), (3, 2)])
        self.assertEqual(many_fellows(office), 1)
        self.assertEqual([may_stand(office, person) for person in range(4)], [[3], [2], [1], [0]])

    def test_no_lots(self):
        for people in range(1, 13):
            office = Office(Book(people, ()), tuple(range(people - 1, -1, -1)))
            many = factorial(people)
            self.assertEqual(many_fellows(office), many)
            self.assertEqual(fellow_at(office, 0), tuple(range(people)))
            self.assertEqual(fellow_at(office, many - 1), tuple(range(people - 1, -1, -1)))
            self.assertEqual(fellow_number(office, office.order), many - 1)
            self.assertEqual(bound_pairs(office), [])
            self.assertEqual(may_stand(office, people - 1), list(range(people)))
            self.raises(NoNumber, fellow_at, office, many)

    def test_twelve_known(self):
        twelve = tuple(range(12))
        star = Office(Book(12, tuple((0, k) for k in range(1, 12))), twelve)
        self.assertEqual(many_fellows(star), factorial(11))
        self.assertEqual(fellow_at(star, factorial(11) - 1), (0, 11, 10, 9, 8, 7, 6, 5, 4, 3, 2, 1))
        halves = Office(Book(12, (tuple(range(6)), tuple(range(6, 12)))), twelve)
        self.assertEqual(many_fellows(halves), factorial(12) // 36)
        pairs = Office(Book(12, tuple((k, k + 1) for k in range(0, 12, 2))), twelve)
        self.assertEqual(many_fellows(pairs), factorial(12) // 64)

    def test_great(self):
        rand = random.Random(9)
        for office in plain.great_offices():
            many = many_fellows(office)
            numbers = sorted({0, many - 1, many // 2} | {rand.randrange(many) for _ in range(20)})
            orders = [fellow_at(office, number) for number in numbers]
            self.assertEqual(orders, sorted(orders))
            self.assertEqual(len(set(orders)), len(numbers))
            self.assertEqual([fellow_number(office, order) for order in orders], numbers)
            bound = bound_pairs(office)
            for order in orders:
                self.accepts(alike, office, Office(office.book, order))
                self.assertTrue(all(order.index(a) < order.index(b) for a, b in bound))
                for person in order:
                    self.assertIn(order.index(person), may_stand(office, person))

    def test_great_bound(self):
        for office in plain.great_offices():
            bound = {(other, person) for lot, person in zip(office.book.lots, plain.table(office.book.lots, office.order))
                     for other in lot if other != person}
            while True:
                wider = bound | {(a, d) for a, b in bound for c, d in bound if b == c}
                if wider == bound:
                    break
                bound = wider
            self.assertEqual(bound_pairs(office), sorted(bound))
            people = office.book.people
            for person in range(people):
                low = len([pair for pair in bound if pair[1] == person])
                high = people - len([pair for pair in bound if pair[0] == person])
                self.assertEqual(may_stand(office, person), list(range(low, high)))

    def test_no_number(self):
        for wrong in plain.bad_numbers() + [2, 3, -1, 10 ** 59]:
            self.raises(NoNumber, fellow_at, ROW, wrong)

    def test_no_list(self):
        for wrong in plain.bad_lists(3):
            self.raises(NoList, fellow_number, ROW, wrong)
        for order in ((1, 0, 2), (1, 2, 0), (2, 0, 1), (2, 1, 0)):
            self.raises(NoList, fellow_number, ROW, order)
        self.assertEqual(fellow_number(ROW, (0, 2, 1)), 1)
        for office in plain.some_offices(2):
            fellows = plain_fellows(office)
            for order in plain.lists(office.book.people):
                if order not in fellows:
                    self.raises(NoList, fellow_number, office, order)

    def test_no_person(self):
        for wrong in plain.bad_persons(3):
            self.raises(NoPerson, may_stand, ROW, wrong)

    def test_new(self):
        self.is_new(bound_pairs, ROW)
        self.is_new(may_stand, ROW, 1)

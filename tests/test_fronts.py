"""Fronts: the other custom (11.4)."""

import random
import unittest

from lastoflot.books import Book
from lastoflot.errors import NoCrowd, NoPerson, TooMany
from lastoflot.fronts import front_out, is_front_out, next_front
from lastoflot.offices import Office
from tests import plain
from tests.plain import Checks, strange

PAIRS = Book(3, ((0, 1), (1, 2)))
ROW = Office(PAIRS, (0, 1, 2))
SEVEN = Office(Book(7, ((0, 1), (1, 2))), tuple(range(7)))


def fronted(lots, order, crowd):
    """The list of the next day."""
    gone = plain.left(crowd, plain.let_in(lots, order, crowd))
    return tuple(sorted(order, key=lambda person: (person not in gone, order.index(person))))


def is_plain_front_out(office, person, crowds):
    order = office.order
    for crowd in crowds:
        if person not in crowd or person in plain.let_in(office.book.lots, order, crowd):
            return False
        order = fronted(office.book.lots, order, crowd)
    return True


def longest(lots, order, person, known):
    """The most days through which a person can be out, by going through all crowds, day by day."""
    if order not in known:
        found = [0]
        for crowd in plain.crowds(len(order)):
            if person in crowd and person not in plain.let_in(lots, order, crowd):
                found.append(1 + longest(lots, fronted(lots, order, crowd), person, known))
        known[order] = max(found)
    return known[order]


class NextFrontTest(Checks, unittest.TestCase):
    def test_going_through(self):
        for office in plain.some_offices(5, 141) + plain.great_offices()[:1]:
            for crowd in plain.crowds(office.book.people):
                found = next_front(office, crowd)
                self.assertIsInstance(found, Office)
                wanted = fronted(office.book.lots, office.order, crowd)
                self.assertEqual((found.book, found.order), (office.book, wanted), (office.order, crowd))

    def test_great(self):
        rand = random.Random(142)
        for office in plain.great_offices():
            for _ in range(30):
                crowd = plain.random_crowd(rand, office.book.people)
                self.assertEqual(next_front(office, crowd).order, fronted(office.book.lots, office.order, crowd))

    def test_named(self):
        self.assertEqual(next_front(ROW, (0, 1)).order, (1, 0, 2))
        self.assertEqual(next_front(ROW, (0, 1, 2)).order, (1, 0, 2))
        self.assertEqual(next_front(ROW, (1, 2)).order, (2, 0, 1))
        self.assertEqual(next_front(ROW, (0, 2)), ROW)
        self.assertEqual(next_front(ROW, ()), ROW)
        self.assertEqual(next_front(Office(Book(3, ((0, 1), (0, 2))), (0, 1, 2)), (0, 1, 2)).order, (1, 2, 0))
        self.assertEqual(ROW.order, (0, 1, 2))

    def test_no_crowd(self):
        for wrong in plain.bad_crowds(3):
            self.raises(NoCrowd, next_front, ROW, wrong)


class FrontOutTest(Checks, unittest.TestCase):
    def told(self, office, person, known):
        found = front_out(office, person)
        told = (office.book.lots, office.order, person, found)
        self.assertIsInstance(found, tuple)
        self.assertTrue(all(plain.is_plain_crowd(office.book.people, crowd) for crowd in found), told)
        self.assertTrue(is_plain_front_out(office, person, found), told)
        self.assertEqual(len(found), longest(office.book.lots, office.order, person, known), told)
        self.accepts(is_front_out, office, person, found)
        return len(found)

    def test_going_through(self):
        sizes = set()
        for office in plain.some_offices(5, 143):
            for person in range(office.book.people):
                sizes.add(self.told(office, person, {}))
        self.assertLessEqual({0, 1, 2}, sizes)

    def test_many_days(self):
        book = Book(4, ((0, 1), (0, 2), (1, 2), (2, 3)))
        office = Office(book, (0, 1, 2, 3))
        self.assertEqual([self.told(office, person, {}) for person in range(4)], [0, 1, 2, 1])
        book = Book(5, ((0, 1), (0, 2), (0, 3), (1, 2), (1, 4), (2, 3), (3, 4)))
        office = Office(book, (2, 0, 3, 1, 4))
        sizes = {person: self.told(office, person, {}) for person in office.order}
        self.assertEqual(sizes, {2: 0, 0: 1, 3: 2, 1: 2, 4: 1})
        triples = Book(5, ((0, 1, 2), (0, 1, 3), (0, 2, 3), (1, 2, 3), (1, 2, 4), (3, 4)))
        office = Office(triples, (0, 1, 2, 3, 4))
        self.assertEqual([self.told(office, person, {}) for person in range(5)], [0, 0, 1, 1, 2])

    def test_not_all_at_once(self):
        # Who comes with too many on the first day is not out on another one.
        for people, lots, order, person in (
                (5, ((0, 1, 4), (0, 2), (0, 3), (1, 2), (1, 3, 4)), (4, 3, 0, 2, 1), 1),
                (5, ((0, 2, 4), (0, 3), (1, 2), (1, 3)), (0, 4, 2, 1, 3), 3),
                (6, ((0, 1, 5), (0, 3), (1, 4), (4, 5)), (3, 0, 5, 1, 4, 2), 4)):
            self.assertEqual(self.told(Office(Book(people, lots), order), person, {}), 2)

    def test_whole_pairs(self):
        # Where no two can be in together, one more is let in each day, and the others stay ahead.
        book = Book(6, tuple((a, b) for a in range(6) for b in range(a + 1, 6)))
        office = Office(book, (5, 3, 1, 0, 2, 4))
        self.assertEqual([len(front_out(office, person)) for person in office.order], [0, 1, 2, 3, 4, 5])
        for person in range(6):
            self.assertTrue(is_plain_front_out(office, person, front_out(office, person)))
            self.accepts(is_front_out, office, person, front_out(office, person))

    def test_six(self):
        rand = random.Random(145)
        for many in (4, 7, 9):
            book = plain.random_book(rand, 6, many)
            office = Office(book, tuple(rand.sample(range(6), 6)))
            self.told(office, office.order[-1], {})
            self.told(office, office.order[-3], {})
        self.assertEqual(front_out(Office(Book(6, ()), tuple(range(6))), 5), ())
        self.assertEqual(front_out(Office(Book(1, ()), (0,)), 0), ())

    def test_order_of_errors(self):
        for people in (7, 12):
            office = Office(Book(people, ((0, 1), (1, 2))), tuple(range(people)))
            for wrong in plain.bad_persons(people):
                self.raises(NoPerson, front_out, office, wrong)
            for person in (0, 1, people - 1):
                self.raises(TooMany, front_out, office, person, most=6)
        for wrong in plain.bad_persons(3):
            self.raises(NoPerson, front_out, ROW, wrong)


class IsFrontOutTest(Checks, unittest.TestCase):
    def test_going_through(self):
        rand = random.Random(146)
        flags = []
        for office in plain.some_offices(5, 147) + plain.great_offices():
            people = office.book.people
            for _ in range(40):
                person = rand.randrange(people)
                crowds = tuple(plain.random_crowd(rand, people) for _ in range(rand.randint(0, 3)))
                if rand.random() < 0.8:
                    crowds = tuple(plain.joined(crowd, (person,)) for crowd in crowds)
                wanted = is_plain_front_out(office, person, crowds)
                flags.append((len(crowds), wanted))
                self.same_flag(wanted, is_front_out(office, person, crowds), office.order, person, crowds)
        self.assertLessEqual({(0, True), (1, True), (2, True), (1, False), (2, False)}, set(flags))

    def test_the_other_custom(self):
        # By this custom those who were let in stay where they are, behind who was out.
        office = Office(Book(3, ((0, 2), (1, 2))), (0, 1, 2))
        self.refuses(is_front_out, office, 2, things=[((0, 2), (1, 2)), ((0, 2), (0, 2))])
        self.accepts(is_front_out, office, 2, ((0, 2),))
        office = Office(Book(3, ((0, 1), (0, 2), (1, 2))), (0, 1, 2))
        self.accepts(is_front_out, office, 2, ((0, 1, 2), (1, 2)))
        self.refuses(is_front_out, office, 2, things=[((0, 2), (1, 2)), ((1, 2), (0, 2)), ((0, 1, 2), (0, 2))])

    def test_wrong_things(self):
        office = Office(Book(4, ((0, 1), (0, 2), (0, 3), (1, 2), (1, 3), (2, 3))), (0, 1, 2, 3))
        for right in ((), ((0, 3),), ((0, 1, 2, 3), (1, 2, 3), (2, 3)), ((0, 1, 2, 3), (0, 1, 2, 3)), ((0, 2, 3), (1, 2, 3))):
            self.accepts(is_front_out, office, 3, right)
        wrong = [
            [], [(0, 3)], ([0, 3],), ((0, 1, 3), [1, 3]), ((0, 3), (0, 3)), ((3,),), ((0,),), ((),), ((0, 1),),
            ((0, 1, 3), (1,)), ((3, 0),), ((False, 3),), ((True, 3),), ((0, 3, 4),), ((0, 3), None), (0, 3), None, 0, "",
            {(0, 3): 0}, {}, ((0, 1, 2, 3), (1, 2, 3), (2, 3), (0, 3)), ((0, 3), (1, 3)), ((0, 0, 3),), ((0, "3"),),
            (((0, 3),),), ((0, 1, 2, 3),) * 5000, ((0, 3),) + ((0, 1),) * 5000, ((0, 1, 2, 3), (1, 2, 3), (2, 3), ()),
        ]
        self.refuses(is_front_out, office, 3, things=wrong + strange())
        self.refuses(is_front_out, ROW, 1, things=[((0, True),), ((False, 1),), ((0, 1), (0, True)), [(0, 1)]])
        self.accepts(is_front_out, ROW, 1, ((0, 1),))
        for person in range(4):
            self.accepts(is_front_out, office, person, ())

    def test_seven(self):
        self.accepts(is_front_out, SEVEN, 1, ((0, 1, 5),))
        self.accepts(is_front_out, SEVEN, 6, ())
        self.refuses(is_front_out, SEVEN, 1, things=[((0, 1), (0, 1)), ((1, 2),), [(0, 1)], None])

    def test_no_person(self):
        for office in (ROW, SEVEN):
            for wrong in plain.bad_persons(office.book.people):
                for thing in ((), None, ((0, 1),)):
                    self.raises(NoPerson, is_front_out, office, wrong, thing)

"""Offices (2.1 to 2.3)."""

import random
import unittest

from lastoflot.books import Book
from lastoflot.errors import BadOffice, NoCrowd, NoPerson, TooMany
from lastoflot.offices import Office, from_below, is_reason, lasts, let_in, out, outcomes, reasons
from tests import plain
from tests.plain import Checks, strange

ROW = Office(Book(3, ((0, 1), (1, 2))), (0, 1, 2))


class OfficeTest(Checks, unittest.TestCase):
    def test_right(self):
        book = Book(3, ((0, 1),))
        office = Office(book, (2, 0, 1))
        self.assertEqual((office.book, office.order), (book, (2, 0, 1)))
        self.assertIsInstance(office.book, Book)
        self.assertEqual(Office(Book(1, ()), (0,)).order, (0,))

    def test_bad_book(self):
        for thing in strange():
            if not isinstance(thing, Book):
                self.raises(BadOffice, Office, thing, (0, 1), part="book")
                self.raises(BadOffice, Office, thing, None, part="book")

    def test_bad_order(self):
        for people in (1, 2, 3, 12):
            for wrong in plain.bad_lists(people):
                self.raises(BadOffice, Office, Book(people, ()), wrong, part="order")

    def test_equal(self):
        book = Book(3, ((0, 1),))
        one = Office(book, (2, 0, 1))
        self.assertTrue(one == Office(Book(3, ((0, 1),)), (2, 0, 1)))
        self.assertFalse(one != Office(book, (2, 0, 1)))
        self.assertFalse(one == Office(book, (0, 2, 1)))
        self.assertFalse(one == Office(Book(3, ((0, 2),)), (2, 0, 1)))
        for thing in strange() + [(book, (2, 0, 1)), book]:
            if not isinstance(thing, Office):
                self.assertIs(one == thing, False)
                self.assertIs(thing == one, False)

    def test_equals_own_kind_alone(self):
        class Twin:
            book = Book(3, ())
            order = (0, 1, 2)
        self.assertFalse(Office(Book(3, ()), (0, 1, 2)) == Twin())


class LetInTest(Checks, unittest.TestCase):
    def test_lasts(self):
        for office in plain.some_offices() + plain.great_offices():
            self.assertEqual(lasts(office), plain.table(office.book.lots, office.order))
        self.assertEqual(lasts(Office(Book(2, ()), (1, 0))), ())
        self.assertEqual(lasts(Office(Book(3, ((0, 1), (0, 2))), (2, 1, 0))), (0, 0))

    def test_all_crowds(self):
        for office in plain.some_offices():
            inside = plain.ins(office)
            for crowd in inside:
                told = (office.book.lots, office.order, crowd)
                self.assertEqual(let_in(office, crowd), inside[crowd], told)
                self.assertEqual(out(office, crowd), plain.left(crowd, inside[crowd]), told)
                self.assertEqual(from_below(office, crowd), plain.from_below(*told), told)
            self.assertEqual(outcomes(office), inside)

    def test_great(self):
        rand = random.Random(6)
        for office in plain.great_offices():
            for _ in range(40):
                people = office.book.people
                crowd = tuple(sorted(rand.sample(range(people), rand.randint(0, people))))
                inside = plain.let_in(office.book.lots, office.order, crowd)
                self.assertEqual(let_in(office, crowd), inside)
                self.assertEqual(out(office, crowd), plain.left(crowd, inside))
                wanted = plain.from_below(office.book.lots, office.order, crowd)
                self.assertEqual(from_below(office, crowd), wanted)

    def test_reasons(self):
        for office in plain.some_offices():
            book = office.book
            inside = plain.ins(office)
            for crowd in inside:
                wanted = {}
                for person in plain.left(crowd, inside[crowd]):
                    wanted[person] = min(self.right_reasons(office, inside[crowd], person))
                self.assertEqual(reasons(office, crowd), wanted, (book.lots, office.order, crowd))

    def right_reasons(self, office, inside, person):
        return [lot for lot in office.book.lots if plain.last(office.order, lot) == person
                and plain.within(set(lot) - {person}, inside)]

    def test_reasons_behind(self):
        # The lot (0, 1) has all others in, but another one than 0 as its last.
        office = Office(Book(4, ((0, 1), (0, 2), (0, 3))), (3, 2, 0, 1))
        self.assertEqual(reasons(office, (0, 1, 2, 3)), {0: (0, 2)})
        self.assertEqual(reasons(office, (0, 1, 3)), {0: (0, 3)})

    def test_is_reason(self):
        for office in plain.some_offices(2):
            people = office.book.people
            inside = plain.ins(office)
            for crowd in inside:
                for person in crowd:
                    right = self.right_reasons(office, inside[crowd], person)
                    for thing in plain.crowds(people):
                        self.same_flag(thing in right, is_reason(office, crowd, person, thing))

    def test_is_reason_least_or_not(self):
        office = Office(Book(3, ((0, 2), (1, 2))), (0, 1, 2))
        self.accepts(is_reason, office, (0, 1, 2), 2, (0, 2))
        self.accepts(is_reason, office, (0, 1, 2), 2, (1, 2))
        self.refuses(is_reason, office, (0, 1, 2), 1, things=[(0, 2), (1, 2)])
        self.refuses(is_reason, office, (0, 2), 2, things=[(1, 2)])

    def test_is_reason_wrong_things(self):
        wrong = strange() + [[0, 1], (1, 0), (False, 1), (0, True), (0, 1, 1), (0, 2), ("0", "1")]
        wrong = [thing for thing in wrong if not (plain.is_plain_crowd(3, thing) and thing == (0, 1))]
        self.refuses(is_reason, ROW, (0, 1, 2), 1, things=wrong)
        self.accepts(is_reason, ROW, (0, 1, 2), 1, (0, 1))

    def test_is_reason_errors(self):
        for wrong in plain.bad_crowds(3):
            self.raises(NoCrowd, is_reason, ROW, wrong, None, (0, 1))
            self.raises(NoCrowd, is_reason, ROW, wrong, 0, (0, 1))
        for wrong in plain.bad_persons(3) + [2]:
            self.raises(NoPerson, is_reason, ROW, (0, 1), wrong, (0, 1))
            self.raises(NoPerson, is_reason, ROW, (0, 1), wrong, None)
        self.raises(NoPerson, is_reason, ROW, (), 0, (0, 1))
        self.raises(NoPerson, is_reason, ROW, (1, 2), True, (1, 2))

    def test_no_crowd(self):
        for call in (let_in, out, reasons, from_below):
            for wrong in plain.bad_crowds(3):
                self.raises(NoCrowd, call, ROW, wrong)

    def test_outcomes_of_many(self):
        book = Book(10, ((0, 1), (2, 3, 4), (8, 9)))
        found = outcomes(Office(book, (9, 8, 7, 6, 5, 4, 3, 2, 1, 0)))
        self.assertEqual(len(found), 1024)
        for crowd in ((), (0, 1), (2, 3, 4, 8, 9), tuple(range(10))):
            self.assertEqual(found[crowd], plain.let_in(book.lots, tuple(range(9, -1, -1)), crowd))
        for people in (11, 12):
            self.raises(TooMany, outcomes, Office(Book(people, ()), tuple(range(people))), most=10)

    def test_new(self):
        self.is_new(reasons, ROW, (0, 1, 2))
        self.is_new(outcomes, ROW)

    def test_arguments_stay(self):
        for call in (let_in, out, reasons, from_below):
            self.leaves(call, ROW, (0, 1, 2))
        self.leaves(is_reason, ROW, (0, 1), 1, [[0, 1], {0: [1]}])
        self.assertEqual(ROW, Office(Book(3, ((0, 1), (1, 2))), (0, 1, 2)))

"""As many as can be (10.1, 10.2)."""

import math
import random
import unittest
from itertools import combinations

from lastoflot.always import always_steady
from lastoflot.books import Book
from lastoflot.errors import NoCrowd, TooMany
from lastoflot.greatest import (
    always_generous, fewer, generous, greatest_clear, is_fewer, is_mean_list, is_stingy, least_share, mean_list, most,
    stingy)
from lastoflot.offices import Office
from tests import plain
from tests.plain import Checks, strange

PAIRS = Book(3, ((0, 1), (1, 2)))
ROW = Office(PAIRS, (0, 1, 2))
MEAN = Office(PAIRS, (1, 0, 2))
TWELVE = tuple(range(12))


def plain_greatest(lots, crowd):
    """The least clear crowd of as many as can be within a crowd."""
    clear = [part for size in range(len(crowd) + 1) for part in combinations(crowd, size) if plain.is_clear(lots, part)]
    size = max(map(len, clear))
    return min(part for part in clear if len(part) == size)


def all_most(book):
    """The dict from all crowds to the most people of a clear crowd within."""
    found = {}
    for crowd in plain.crowds(book.people):
        smaller = [found[plain.left(crowd, (person,))] for person in crowd]
        found[crowd] = len(crowd) if plain.is_clear(book.lots, crowd) else max(smaller)
    return found


def plain_stingy(office, table):
    """All crowds from which fewer are let in than can be."""
    inside = plain.ins(office)
    return [crowd for crowd in inside if len(inside[crowd]) < table[crowd]]


def plain_fewer(office):
    inside = plain.ins(office)
    return [(crowd, person) for crowd in inside for person in range(office.book.people)
            if person not in crowd and len(inside[plain.joined(crowd, (person,))]) < len(inside[crowd])]


def plain_share(office):
    """The least share as a pair in lowest terms, and the first crowd with it."""
    inside, table = plain.ins(office), all_most(office.book)
    full = math.lcm(*range(1, office.book.people + 1))
    shares = {crowd: len(inside[crowd]) * full // table[crowd] for crowd in inside if crowd}
    least = min(shares.values())
    shared = math.gcd(least, full)
    return (least // shared, full // shared), next(crowd for crowd in shares if shares[crowd] == least)


class MostTest(Checks, unittest.TestCase):
    def test_going_through(self):
        for book in plain.fair_books():
            for crowd in plain.crowds(book.people):
                wanted = plain_greatest(book.lots, crowd)
                self.assertEqual(greatest_clear(book, crowd), wanted, (book.lots, crowd))
                self.assertEqual(most(book, crowd), len(wanted), (book.lots, crowd))

    def test_named(self):
        self.assertEqual((most(PAIRS, (0, 1, 2)), greatest_clear(PAIRS, (0, 1, 2))), (2, (0, 2)))
        self.assertEqual((most(PAIRS, (0, 1)), greatest_clear(PAIRS, (0, 1))), (1, (0,)))
        self.assertEqual((most(PAIRS, ()), greatest_clear(PAIRS, ())), (0, ()))
        self.assertEqual((most(Book(1, ()), (0,)), greatest_clear(Book(1, ()), (0,))), (1, (0,)))
        self.assertEqual(greatest_clear(Book(4, ((0, 1), (0, 2), (0, 3))), (0, 1, 2, 3)), (1, 2, 3))
        # A lot that reaches out of the crowd keeps nobody out.
        self.assertEqual(greatest_clear(Book(4, ((0, 1, 3), (1, 2))), (0, 1)), (0, 1))

    def test_great(self):
        rand = random.Random(121)
        for book in plain.great_books():
            for crowd in [tuple(range(book.people))] + [plain.random_crowd(rand, book.people) for _ in range(5)]:
                wanted = plain_greatest(book.lots, crowd)
                self.assertEqual(greatest_clear(book, crowd), wanted)
                self.assertEqual(most(book, crowd), len(wanted))
        self.assertEqual(most(Book(12, tuple(combinations(range(11), 2))), TWELVE), 2)
        self.assertEqual(greatest_clear(Book(12, (TWELVE,)), TWELVE), TWELVE[:11])
        self.assertEqual(greatest_clear(Book(12, ()), TWELVE), TWELVE)

    def test_no_crowd(self):
        for people in (1, 3, 12):
            for wrong in plain.bad_crowds(people):
                self.raises(NoCrowd, most, Book(people, ()), wrong)
                self.raises(NoCrowd, greatest_clear, Book(people, ()), wrong)


class GenerousTest(Checks, unittest.TestCase):
    def told(self, office, table=None):
        right = plain_stingy(office, table or all_most(office.book))
        pairs = plain_fewer(office)
        told = (office.book.lots, office.order)
        self.same_flag(not right, generous(office), told)
        for found, wanted, judge in ((stingy(office), right, is_stingy), (fewer(office), pairs, is_fewer)):
            self.assertEqual(found is None, not right, told)
            self.assertEqual(found is None, not wanted, told)
            if wanted:
                self.assertIn(found, wanted, told)
                self.accepts(judge, office, found)
        return (set(right), set(pairs))

    def test_going_through(self):
        flags = []
        for office in plain.some_offices(6, 122):
            right, pairs = self.told(office)
            flags.append(right == set())
            for crowd in plain.crowds(office.book.people):
                self.same_flag(crowd in right, is_stingy(office, crowd), office.book.lots, crowd)
                for person in range(office.book.people):
                    thing = (crowd, person)
                    self.same_flag(thing in pairs, is_fewer(office, thing), office.book.lots, thing)
        self.assertGreater(flags.count(True), 10)
        self.assertGreater(flags.count(False), 10)

    def test_named(self):
        self.assertIs(generous(ROW), True)
        self.assertEqual((stingy(ROW), fewer(ROW)), (None, None))
        self.assertIs(generous(MEAN), False)
        self.assertEqual((stingy(MEAN), fewer(MEAN)), ((0, 1, 2), ((0, 2), 1)))

    def test_generous_but_not_steady(self):
        # ROW is generous though it is not steady, so neither word is the other one for one list.
        self.assertIs(generous(ROW), True)
        self.assertIs(plain.is_steady(ROW), False)
        self.assertIs(generous(MEAN), False)
        self.assertIs(plain.is_steady(MEAN), True)

    def test_ten(self):
        for lots, order in (
                (((0, 1), (1, 2), (1, 3), (4, 5, 6), (6, 7), (7, 8, 9)), tuple(range(10))),
                (((0, 1), (1, 2), (2, 3), (4, 5), (5, 6), (6, 7), (7, 8), (8, 9)), tuple(range(10))),
                (tuple((2 * k, 2 * k + 1) for k in range(5)), (9, 0, 8, 1, 7, 2, 6, 3, 5, 4)), ((), tuple(range(10)))):
            self.told(Office(Book(10, lots), order))

    def test_too_many(self):
        for people in (11, 12):
            for lots in ((), ((0, 1), (0, 2))):
                office = Office(Book(people, lots), tuple(range(people)))
                for call in (generous, stingy, fewer, least_share):
                    self.raises(TooMany, call, office, most=10)
                crowd = tuple(range(3))
                self.same_flag(lots, is_stingy(office, crowd))
                self.same_flag(lots, is_fewer(office, ((1, 2, people - 1), 0)))
                self.refuses(is_stingy, office, things=[(1, 2), None])
                self.refuses(is_fewer, office, things=[((1,), 0), ((0, 1), 2), None])

    def test_great(self):
        rand = random.Random(123)
        for office in plain.great_offices():
            lots, order = office.book.lots, office.order
            for _ in range(20):
                crowd = plain.random_crowd(rand, office.book.people)
                few = len(plain.let_in(lots, order, crowd))
                self.same_flag(few < max(plain.clear_sizes(lots, crowd)), is_stingy(office, crowd))
                person = rand.randrange(office.book.people)
                more = len(plain.let_in(lots, order, plain.joined(crowd, (person,))))
                self.same_flag(more < few, is_fewer(office, (crowd, person)))

    def test_wrong_crowds(self):
        self.accepts(is_stingy, MEAN, (0, 1, 2))
        wrong = [[0, 1, 2], (0, True, 2), (False, 1, 2), (2, 1, 0), (0, 1, 2, 3), (0, 1, 1, 2), ("0", "1", "2"), (0, 1),
                 (1, 2), (0, 2), (), (0, 1, None), {0: 0, 1: 1, 2: 2}, "012", ((0, 1, 2),)]
        self.refuses(is_stingy, MEAN, things=wrong + strange())
        self.refuses(is_stingy, ROW, things=wrong + strange() + [(0, 1, 2)])

    def test_wrong_pairs(self):
        self.accepts(is_fewer, MEAN, ((0, 2), 1))
        wrong = [
            [(0, 2), 1], ([0, 2], 1), ((0, 2), True), ((0, 2),), ((0, 2), 1, 1), ((2, 0), 1), ((False, 2), 1), ((0, 1, 2), 1),
            ((0, 2), 0), ((0, 2), 3), ((0, 2), -2), ((0, 2), "1"), ((0, 2), (1,)), ((0, 2), None), ((0,), 1), ((), 1),
            ((0, 2, 3), 1), (None, 1), (1, (0, 2)), ((0, 2), 10 ** 59), ((0, 0, 2), 1), ((0, 1), 2), {0: (0, 2), 1: 1},
        ]
        self.refuses(is_fewer, MEAN, things=wrong + strange())
        first = Office(Book(3, ((0, 1), (0, 2))), (0, 1, 2))
        self.accepts(is_fewer, first, ((1, 2), 0))
        self.refuses(is_fewer, first, things=[((1, 2), False), ((True, 2), 0)])


class ShareTest(Checks, unittest.TestCase):
    def test_going_through(self):
        found = set()
        for office in plain.some_offices(6, 124):
            wanted = plain_share(office)
            self.assertEqual(least_share(office), wanted, (office.book.lots, office.order))
            found.add(wanted[0])
        self.assertLessEqual({(1, 1), (1, 2), (2, 3)}, found)

    def test_named(self):
        self.assertEqual(least_share(MEAN), ((1, 2), (0, 1, 2)))
        self.assertEqual(least_share(ROW), ((1, 1), (0,)))
        self.assertEqual(least_share(Office(Book(1, ()), (0,))), ((1, 1), (0,)))
        star = Office(Book(5, ((0, 1), (0, 2), (0, 3), (0, 4))), (0, 1, 2, 3, 4))
        self.assertEqual(least_share(star), ((1, 4), (0, 1, 2, 3, 4)))

    def test_lowest_terms(self):
        book = Book(6, ((0, 1), (0, 2), (3, 4), (3, 5)))
        self.assertEqual(least_share(Office(book, tuple(range(6)))), ((1, 2), (0, 1, 2)))
        book = Book(8, tuple((k, other) for k in (0, 1) for other in range(2, 8)))
        self.assertEqual(least_share(Office(book, tuple(range(8)))), ((1, 6), (0, 2, 3, 4, 5, 6, 7)))
        book = Book(6, ((0, 1, 2), (0, 1, 3), (0, 1, 4), (0, 1, 5)))
        self.assertEqual(least_share(Office(book, tuple(range(6)))), ((2, 5), (0, 1, 2, 3, 4, 5)))
        book = Book(7, tuple((0, 1, 2, other) for other in range(3, 6)))
        self.assertEqual(least_share(Office(book, tuple(range(7)))), ((3, 5), (0, 1, 2, 3, 4, 5)))
        # Two of four.
        book = Book(7, tuple((0, 1, other) for other in range(2, 5)))
        self.assertEqual(least_share(Office(book, tuple(range(7)))), ((1, 2), (0, 1, 2, 3, 4)))

    def test_ten(self):
        office = Office(Book(10, ((0, 1), (0, 2), (0, 3, 4), (5, 6, 7), (5, 6, 8), (8, 9))), tuple(range(10)))
        self.assertEqual(least_share(office), plain_share(office))
        self.assertEqual(least_share(Office(Book(10, ()), tuple(range(10)))), ((1, 1), (0,)))


class AlwaysTest(Checks, unittest.TestCase):
    def told(self, book):
        table = all_most(book)
        right = set()
        for order in plain.lists(book.people):
            right |= {(order, crowd) for crowd in plain_stingy(Office(book, order), table)}
        self.same_flag(not right, always_generous(book), book.lots)
        self.same_flag(always_steady(book), always_generous(book), book.lots)
        found = mean_list(book)
        self.assertEqual(found is None, not right, book.lots)
        if right:
            self.assertIn(found, right)
            self.accepts(is_mean_list, book, found)
        return right

    def test_going_through(self):
        flags = []
        rand = random.Random(125)
        for book in plain.small_books() + [plain.random_book(rand, 4, many) for many in (2, 3, 3, 4, 4)]:
            right = self.told(book)
            flags.append(right == set())
            for order in plain.lists(book.people):
                for crowd in plain.crowds(book.people):
                    thing = (order, crowd)
                    self.same_flag(thing in right, is_mean_list(book, thing), book.lots, thing)
        self.assertGreater(flags.count(True), 5)
        self.assertGreater(flags.count(False), 5)

    def test_five(self):
        rand = random.Random(126)
        for many in (2, 3, 5):
            self.told(plain.random_book(rand, 5, many))
        self.told(Book(5, ((0, 1, 2, 3), (0, 1, 2, 4), (0, 1, 3, 4), (0, 2, 3, 4), (1, 2, 3, 4))))
        self.told(Book(5, ((0, 1, 2), (0, 1, 3), (0, 2, 3))))

    def test_six_with_one_in_all(self):
        # Of the persons of both lots another lot has some, too: the first list at hand would not do.
        rand = random.Random(127)
        books = [Book(6, ((0, 1, 2, 3), (0, 1, 4, 5), (0, 2, 4)))]
        books += [plain.random_book(rand, people, many) for people in (6, 7, 8) for many in (3, 4, 5, 6, 7, 8, 9)]
        for book in books:
            self.shown(book)

    def shown(self, book):
        """Checks that a book is steady with every list, or that a list is mean."""
        found = mean_list(book)
        self.same_flag(found is None, always_generous(book))
        self.same_flag(found is None, always_steady(book))
        if found is not None:
            order, crowd = found
            self.assertEqual(sorted(order), list(range(book.people)))
            few = len(plain.let_in(book.lots, order, crowd))
            self.assertLess(few, len(plain_greatest(book.lots, crowd)), (book.lots, found))
            self.accepts(is_mean_list, book, found)

    def test_great(self):
        for lots in ((), ((0, 1), (2, 3, 4), (5, 6, 7, 8, 9, 10, 11)), tuple(combinations(range(11), 10))):
            book = Book(12, lots)
            self.assertIs(always_generous(book), True)
            self.assertIsNone(mean_list(book))
            self.refuses(is_mean_list, book, things=[(TWELVE, TWELVE), (TWELVE[::-1], TWELVE)])
        for book in plain.great_books():
            self.assertIs(always_generous(book), False)
            self.shown(book)

    def test_wrong_things(self):
        right = ((1, 0, 2), (0, 1, 2))
        self.accepts(is_mean_list, PAIRS, right)
        wrong = [
            list(right), ([1, 0, 2], (0, 1, 2)), ((1, 0, 2), [0, 1, 2]), ((True, 0, 2), (0, 1, 2)),
            ((1, False, 2), (0, 1, 2)), ((1, 0, 2), (0, True, 2)), ((1, 0, 2), (1, 0, 2)), ((0, 1, 2), (0, 1, 2)),
            ((1, 0, 2), (0, 1)), ((1, 0, 2), ()), ((1, 0, 2),), (*right, 0), ((1, 0), (0, 1, 2)), ((1, 0, 2), (0, 1, 2, 3)),
            ((1, 0, 2, 3), (0, 1, 2)), ((1, 0, 0), (0, 1, 2)), ((1, 0, 2), None), (None, (0, 1, 2)), ((1, 0, 2), 0),
            ("102", (0, 1, 2)), ((1, 0, 2), "012"), ((0, 1, 2), (1, 0, 2)), ((1, 0, 2), (0, 1, 1, 2)), MEAN, (MEAN, (0, 1, 2)),
        ]
        self.refuses(is_mean_list, PAIRS, things=wrong + strange())

"""Tables of lasts (4.1, 4.2)."""

import random
import unittest
from itertools import combinations, product
from math import factorial

from lastoflot.books import Book
from lastoflot.errors import NoTable, TooMany
from lastoflot.tables import all_tables, is_ring, least_lists, list_for, lists_with, many_tables, ring_of
from tests import plain
from tests.plain import Checks, strange

ROUND = Book(3, ((0, 1), (0, 2), (1, 2)))
JUST_2000 = Book(8, (
    (0, 2), (0, 3, 4, 6), (0, 3, 5), (0, 6, 7), (1, 2, 3), (1, 2, 5, 6), (1, 3, 5), (1, 3, 6, 7), (2, 3, 4), (2, 7),
    (3, 5, 7), (4, 5, 6, 7)))
JUST_2001 = Book(8, (
    (0, 1, 2), (0, 3, 7), (0, 4), (0, 5), (1, 2, 5, 7), (1, 3, 5), (1, 4), (1, 6), (2, 3, 6), (2, 4, 5, 6), (4, 7)))
TABLE_CALLS = (list_for, ring_of, lists_with)


def lists_by_table(book):
    """The dict from each table that some list has to its ascending lists."""
    found = {}
    for order in plain.lists(book.people):
        found.setdefault(plain.table(book.lots, order), []).append(order)
    return found


def is_plain_ring(book, table, ring):
    """Whether a tuple of unlike persons is a ring, by its words."""
    return len(ring) >= 2 and all(
        any(one in lot and after in lot and last == after for lot, last in zip(book.lots, table))
        for one, after in zip(ring, ring[1:] + ring[:1]))


def pairs_in_a_row(people):
    return Book(people, tuple((k, k + 1) for k in range(people - 1)))


def pairs_in_a_round(people):
    return Book(people, tuple(sorted([(k, k + 1) for k in range(people - 1)] + [(0, people - 1)])))


def all_pairs(people):
    return Book(people, tuple(combinations(range(people), 2)))


class TableTest(Checks, unittest.TestCase):
    def test_going_through(self):
        for book in plain.small_books():
            found = lists_by_table(book)
            for table in product(*book.lots):
                orders = found.get(table, [])
                told = (book.lots, table)
                self.assertEqual(list_for(book, table), orders[0] if orders else None, told)
                self.assertEqual(lists_with(book, table), len(orders), told)
                ring = ring_of(book, table)
                self.assertEqual(ring is None, len(orders) > 0, told)
                if ring is not None:
                    self.assertEqual(len(set(ring)), len(ring))
                    self.assertTrue(is_plain_ring(book, table, ring), told)
                    self.accepts(is_ring, book, table, ring)

    def test_rings_judged(self):
        for book in plain.small_books():
            rows = [row for size in range(book.people + 1) for crowd in combinations(range(book.people), size)
                    for row in permuted(crowd)]
            tables = list(product(*book.lots))
            for table in tables[::max(1, len(tables) // 12)]:
                for row in rows:
                    self.same_flag(is_plain_ring(book, table, row), is_ring(book, table, row), book.lots, table, row)

    def test_ring_turned(self):
        table = (1, 0, 2)
        for ring in ((0, 1, 2), (1, 2, 0), (2, 0, 1)):
            self.accepts(is_ring, ROUND, table, ring)
        self.refuses(is_ring, ROUND, table, things=[(2, 1, 0), (1, 0, 2), (0, 2, 1), (0, 1), (1, 0)])

    def test_ring_wrong_things(self):
        wrong = [[0, 1, 2], (0,), (), (0, 1, 2, 0), (0, 1, 2, 0, 1, 2), (False, 1, 2), (0, True, 2), (0, 1, 3), (0, 0),
                 (0, 1, -1), ("0", "1", "2"), {0: 1}, (0, 1, None), ((0, 1, 2),), (1,), (2,)]
        self.refuses(is_ring, ROUND, (1, 0, 2), things=wrong + strange())
        # Two lots bring two of them round, each the last of one.
        book = Book(4, ((0, 1, 2), (0, 1, 3)))
        self.accepts(is_ring, book, (0, 1), (0, 1))
        self.accepts(is_ring, book, (0, 1), (1, 0))
        self.refuses(is_ring, book, (0, 1), things=strange())
        self.assertIn(ring_of(book, (0, 1)), ((0, 1), (1, 0)))
        self.assertIsNone(ring_of(book, (2, 3)))

    def test_wrong_tables(self):
        wrong = [[1, 0, 2], (1, 0), (1, 0, 2, 0), (2, 0, 2), (1, 1, 2), (1, 0, 0), (True, 0, 2), (1, False, 2),
                 (1, 0, "2"), (1, 0, None), (1, 0, 3), (-1, 0, 2), (), (1, 0, (2,)), {0: 1}, (0, 0, True)]
        for table in wrong + strange():
            for call in TABLE_CALLS:
                self.raises(NoTable, call, ROUND, table)
            self.raises(NoTable, is_ring, ROUND, table, (0, 1))
            self.raises(NoTable, is_ring, ROUND, table, None)
        for table in strange():
            if table != ():
                for call in TABLE_CALLS:
                    self.raises(NoTable, call, Book(3, ()), table)

    def test_no_lots(self):
        for people in (1, 3, 12):
            book = Book(people, ())
            self.assertEqual(list_for(book, ()), tuple(range(people)))
            self.assertIsNone(ring_of(book, ()))
            self.assertEqual(lists_with(book, ()), factorial(people))
            self.refuses(is_ring, book, (), things=[(), (0,), (0, 1)])

    def test_great(self):
        rand = random.Random(10)
        for office in plain.great_offices():
            book = office.book
            table = plain.table(book.lots, office.order)
            order = list_for(book, table)
            self.assertEqual(plain.table(book.lots, order), table)
            self.assertLessEqual(order, office.order)
            self.assertIsNone(ring_of(book, table))
            self.assertGreaterEqual(lists_with(book, table), 1)
            for _ in range(10):
                self.great_table(book, tuple(rand.choice(lot) for lot in book.lots))

    def great_table(self, book, table):
        ring = ring_of(book, table)
        order = list_for(book, table)
        self.assertEqual(ring is None, order is not None)
        self.assertEqual(lists_with(book, table) == 0, order is None)
        if ring is None:
            self.assertEqual(plain.table(book.lots, order), table)
        else:
            self.accepts(is_ring, book, table, ring)
            self.assertTrue(is_plain_ring(book, table, ring))


def permuted(crowd):
    """All orders of a crowd."""
    return [tuple(crowd[k] for k in order) for order in plain.lists(len(crowd))]


class ManyTablesTest(Checks, unittest.TestCase):
    def test_going_through(self):
        for book in plain.fair_books():
            found = lists_by_table(book)
            self.assertEqual(many_tables(book), len(found), book.lots)
            self.assertEqual(all_tables(book), sorted(found), book.lots)
            self.assertEqual(least_lists(book), sorted(orders[0] for orders in found.values()), book.lots)

    def test_six(self):
        rand = random.Random(12)
        for many in (4, 8, 12):
            book = plain.random_book(rand, 6, many)
            found = lists_by_table(book)
            self.assertEqual(many_tables(book), len(found))
            self.assertEqual(all_tables(book), sorted(found))
            self.assertEqual(least_lists(book), sorted(orders[0] for orders in found.values()))

    def test_known(self):
        for people in range(1, 10):
            self.assertEqual(many_tables(Book(people, ())), 1)
            self.assertEqual(many_tables(pairs_in_a_row(people)), 2 ** (people - 1))
            self.assertEqual(many_tables(all_pairs(people)), factorial(people))
            if people >= 3:
                self.assertEqual(many_tables(pairs_in_a_round(people)), 2 ** people - 2)
            if people >= 2:
                self.assertEqual(many_tables(Book(people, (tuple(range(people)),))), people)
        self.assertEqual(many_tables(Book(9, ((0, 1, 2), (3, 4, 5), (6, 7, 8)))), 27)

    def test_lists_of_all_tables(self):
        for book in (pairs_in_a_row(9), pairs_in_a_round(9), Book(9, ((0, 1, 2), (3, 4, 5), (6, 7, 8)))):
            tables = all_tables(book)
            self.assertEqual(len(tables), many_tables(book))
            self.assertEqual(tables, sorted(set(tables)))
            self.assertEqual(sum(lists_with(book, table) for table in tables), factorial(9))
            orders = least_lists(book)
            self.assertEqual(orders, sorted(list_for(book, table) for table in tables))

    def test_many_lots(self):
        # Whoever is last of a lot of eight out of nine is the last of all, or the last but one.
        book = Book(9, tuple(combinations(range(9), 8)))
        self.assertEqual(many_tables(book), 72)
        self.assertEqual(len(all_tables(book)), 72)
        rand = random.Random(13)
        book = Book(9, tuple(sorted(rand.sample(list(combinations(range(9), 7)), 36))))
        self.assertEqual(many_tables(book), 9 * 8 * 7)
        sixty = Book(9, tuple(sorted(rand.sample(list(combinations(range(9), 4)), 60))))
        self.assertLessEqual(many_tables(sixty), factorial(9))
        book = Book(6, tuple(combinations(range(6), 4)))
        self.assertEqual(many_tables(book), len(lists_by_table(book)))
        self.assertEqual(all_tables(book), sorted(lists_by_table(book)))

    def test_two_thousand(self):
        found = lists_by_table(JUST_2000)
        self.assertEqual(len(found), 2000)
        self.assertEqual(many_tables(JUST_2000), 2000)
        self.assertEqual(all_tables(JUST_2000), sorted(found))
        self.assertEqual(least_lists(JUST_2000), sorted(orders[0] for orders in found.values()))
        self.assertEqual(many_tables(JUST_2001), 2001)
        self.raises(TooMany, all_tables, JUST_2001, most=2000)
        self.raises(TooMany, least_lists, JUST_2001, most=2000)

    def test_more_than_two_thousand(self):
        for book in (all_pairs(7), all_pairs(9)):
            self.assertGreater(many_tables(book), 2000)
            self.raises(TooMany, all_tables, book, most=2000)
            self.raises(TooMany, least_lists, book, most=2000)
        self.assertEqual(len(all_tables(all_pairs(6))), 720)

    def test_too_many_people(self):
        for people in (10, 11, 12):
            for call in (many_tables, all_tables, least_lists):
                self.raises(TooMany, call, Book(people, ()), most=9)
                self.raises(TooMany, call, all_pairs(min(people, 11)), most=9)

    def test_new(self):
        self.is_new(all_tables, ROUND)
        self.is_new(least_lists, ROUND)

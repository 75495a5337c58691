"""Books that are always steady (5.4)."""

import random
import unittest
from itertools import combinations

from lastoflot.always import always_steady, is_unsteady_list, spare, unsteady_list
from lastoflot.books import Book
from lastoflot.offices import Office
from lastoflot.steady import steady
from tests import plain
from tests.plain import Checks


def plain_spare(book):
    lots = book.lots
    found = [(i, j, person) for i, j in combinations(range(len(lots)), 2) for person in set(lots[i]) & set(lots[j])
             if plain.is_clear(lots, (set(lots[i]) | set(lots[j])) - {person})]
    return min(found, default=None)


def books():
    rand = random.Random(15)
    return plain.small_books() + [plain.random_book(rand, 4, many) for many in (2, 3, 4, 4, 5)]


class AlwaysTest(Checks, unittest.TestCase):
    def test_going_through(self):
        flags = []
        for book in books():
            unsteady = [order for order in plain.lists(book.people) if not plain.is_steady(Office(book, order))]
            flags.append(unsteady == [])
            self.same_flag(not unsteady, always_steady(book), book.lots)
            self.assertEqual(spare(book), plain_spare(book), book.lots)
            self.assertEqual(spare(book) is None, not unsteady, book.lots)
            found = unsteady_list(book)
            self.assertEqual(found is None, not unsteady, book.lots)
            if unsteady:
                self.assertIn(found, unsteady)
            for order in plain.lists(book.people):
                self.same_flag(order in unsteady, is_unsteady_list(book, order), book.lots, order)
        self.assertGreater(flags.count(True), 5)
        self.assertGreater(flags.count(False), 5)

    def test_five(self):
        rand = random.Random(16)
        for many in (2, 3, 4, 6):
            book = plain.random_book(rand, 5, many)
            wanted = all(plain.is_steady(Office(book, order)) for order in plain.lists(5))
            self.same_flag(wanted, always_steady(book), book.lots)

    def test_least_spare(self):
        book = Book(6, ((0, 1), (2, 3, 4), (2, 3, 5)))
        self.assertEqual(spare(book), (1, 2, 2))
        self.assertEqual(spare(Book(4, ((0, 1, 2), (1, 2, 3)))), (0, 1, 1))
        self.assertEqual(spare(Book(4, ((0, 3), (1, 2), (2, 3)))), (0, 2, 3))

    def test_great(self):
        twelve = tuple(range(12))
        for lots in ((), ((0, 1), (2, 3, 4), (5, 6, 7, 8, 9, 10, 11)), tuple(combinations(range(11), 10))):
            book = Book(12, lots)
            self.accepts(always_steady, book)
            self.assertIsNone(spare(book))
            self.assertIsNone(unsteady_list(book))
            self.refuses(is_unsteady_list, book, things=[twelve, twelve[::-1]])
        self.accepts(always_steady, Book(11, tuple(combinations(range(11), 2))))
        for book in plain.great_books():
            self.assertEqual(spare(book), plain_spare(book))
            found = unsteady_list(book)
            self.assertIsNotNone(found)
            self.same_flag(False, always_steady(book))
            self.accepts(is_unsteady_list, book, found)
            self.same_flag(False, steady(Office(book, found)))

    def test_wrong_lists(self):
        book = Book(3, ((0, 1), (1, 2)))
        self.accepts(is_unsteady_list, book, (0, 1, 2))
        self.accepts(is_unsteady_list, book, (2, 1, 0))
        self.refuses(is_unsteady_list, book, things=plain.bad_lists(3) + [(0, True, 2), [0, 1, 2], (False, 1, 2)])

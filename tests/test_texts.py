"""Texts of books and offices (19.1)."""

import random
import unittest

from lastoflot.books import Book
from lastoflot.offices import Office
from lastoflot.reading import read_book, read_office
from lastoflot.texts import book_text, office_text
from tests import plain
from tests.plain import Checks

ROW = Office(Book(3, ((0, 1), (1, 2))), (0, 1, 2))


def lines(book):
    return [f"people {book.people}"] + [" ".join(map(str, lot)) for lot in book.lots]


class TextTest(Checks, unittest.TestCase):
    def test_by_the_words(self):
        for office in plain.some_offices(2, 251) + plain.great_offices():
            wanted = lines(office.book)
            self.assertEqual(self.leaves(book_text, office.book), "".join(line + "\n" for line in wanted))
            wanted.append(" ".join(["list", *map(str, office.order)]))
            self.assertEqual(self.leaves(office_text, office), "".join(line + "\n" for line in wanted))

    def test_named(self):
        self.assertEqual(office_text(ROW), "people 3\n0 1\n1 2\nlist 0 1 2\n")
        self.assertEqual(book_text(ROW.book), "people 3\n0 1\n1 2\n")
        self.assertEqual(book_text(Book(1, ())), "people 1\n")
        self.assertEqual(office_text(Office(Book(1, ()), (0,))), "people 1\nlist 0\n")
        office = Office(Book(12, ((0, 2, 11), (9, 10))), (11, 10, 9, 8, 7, 6, 5, 4, 3, 2, 1, 0))
        self.assertEqual(office_text(office), "people 12\n0 2 11\n9 10\nlist 11 10 9 8 7 6 5 4 3 2 1 0\n")

    def test_read_back(self):
        rand = random.Random(252)
        for office in plain.some_offices(2, 253) + plain.great_offices():
            self.assertEqual(read_book(book_text(office.book)), office.book)
            self.assertEqual(read_office(office_text(office)), office)
            order = tuple(rand.sample(office.order, len(office.order)))
            other = Office(office.book, order)
            self.assertEqual(read_office(office_text(other)), other)
            self.assertEqual(office_text(other) == office_text(office), order == office.order)

"""Verdicts: what is sure once something was seen (7.3)."""

import random
import unittest
from itertools import permutations

from lastoflot.books import Book
from lastoflot.errors import NoCrowd, NoList, NoSightings, TooMany
from lastoflot.verdicts import parted_by, surely_ahead, verdicts
from tests import plain
from tests.plain import Checks
from tests.test_sightings import cases, plain_fitting, random_sightings

PAIRS = Book(3, ((0, 1), (1, 2)))
SEEN = [((0, 1, 2), (0, 2))]
NEVER = [((0, 1), (0,)), ((0, 1), (1,))]
HALVES = Book(9, ((0, 1), (2, 3), (4, 5), (6, 7)))
NINE = tuple(range(9))


def plain_ahead(people, orders):
    return [(a, b) for a, b in permutations(range(people), 2)
            if all(order.index(a) < order.index(b) for order in orders)]


def plain_verdicts(book, orders, crowd):
    found = {}
    for person in crowd:
        flags = {person in plain.let_in(book.lots, order, crowd) for order in orders}
        found[person] = "open" if len(flags) == 2 else {True: "in", False: "out"}[flags.pop()]
    return found


def plain_parted(book, orders):
    for crowd in plain.crowds(book.people):
        if len({plain.let_in(book.lots, order, crowd) for order in orders}) > 1:
            return crowd
    return None


class VerdictTest(Checks, unittest.TestCase):
    def going_through(self, book, sightings, crowds):
        orders = plain_fitting(book, sightings)
        told = (book.lots, sightings)
        if not orders:
            self.raises(NoList, surely_ahead, book, sightings)
            self.raises(NoList, parted_by, book, sightings)
            for crowd in crowds:
                self.raises(NoList, verdicts, book, sightings, crowd)
            return []
        self.assertEqual(surely_ahead(book, sightings), plain_ahead(book.people, orders), told)
        if book.people <= 6:
            self.assertEqual(parted_by(book, sightings), plain_parted(book, orders), told)
        words = []
        for crowd in crowds:
            wanted = plain_verdicts(book, orders, crowd)
            self.assertEqual(verdicts(book, sightings, crowd), wanted, (told, crowd))
            words += list(wanted.values())
        return words

    def test_small(self):
        words = []
        for book, sightings in cases(81) + cases(82, 0.05)[::2]:
            words += self.going_through(book, sightings, plain.crowds(book.people))
        for word in ("in", "out", "open"):
            self.assertGreater(words.count(word), 200)

    def test_none_seen(self):
        self.assertEqual(surely_ahead(PAIRS, []), [])
        self.assertEqual(verdicts(PAIRS, (), (0, 1, 2)), {0: "open", 1: "open", 2: "open"})
        self.assertEqual(verdicts(PAIRS, [], (0, 2)), {0: "in", 2: "in"})
        self.assertEqual(verdicts(PAIRS, [], ()), {})
        self.assertEqual(parted_by(PAIRS, []), (0, 1))
        self.assertIsNone(parted_by(Book(6, ()), []))
        self.assertIsNone(parted_by(PAIRS, [((0, 1), (1,)), ((1, 2), (2,))]))

    def test_named(self):
        self.assertEqual(surely_ahead(PAIRS, [((0, 1), (1,)), ((1, 2), (2,))]), [(1, 0), (2, 0), (2, 1)])
        self.assertEqual(surely_ahead(PAIRS, SEEN), [])
        self.assertEqual(verdicts(PAIRS, SEEN, (0, 1, 2)), {0: "in", 1: "out", 2: "in"})
        self.assertEqual(verdicts(PAIRS, tuple(SEEN), (0, 1)), {0: "open", 1: "open"})
        self.assertEqual(parted_by(PAIRS, SEEN), (0, 1))
        book = Book(4, ((0, 1, 2), (1, 2, 3)))
        self.assertEqual(surely_ahead(book, [((0, 1, 2), (1, 2))]), [(1, 0), (2, 0)])
        self.assertEqual(parted_by(book, [((0, 1, 2), (1, 2))]), (1, 2, 3))

    def test_behind_either(self):
        # Whoever is out by one lot or another is surely behind those of both alone.
        book = Book(4, ((0, 1, 3), (0, 2, 3)))
        self.assertEqual(surely_ahead(book, [((0, 1, 2, 3), (1, 2, 3))]), [(3, 0)])
        self.assertEqual(surely_ahead(book, [((0, 1, 3), (1, 3))]), [(1, 0), (3, 0)])

    def test_six(self):
        rand = random.Random(83)
        for many in (2, 3, 4):
            book = plain.random_book(rand, 6, 7)
            crowds = rand.sample(plain.crowds(6), 6) + [(0, 1, 2, 3, 4, 5)]
            self.going_through(book, random_sightings(rand, book, many, 0), crowds)
        self.going_through(Book(6, ((0, 1, 2), (2, 3, 4), (4, 5))), [((0, 2, 3, 4), (2, 3))], [(0, 1, 2, 3, 4)])

    def test_last_crowd(self):
        # All but the whole crowd let in the same whatever list fits.
        book = Book(6, ((0, 1, 2, 3, 4, 5),))
        self.assertEqual(parted_by(book, []), (0, 1, 2, 3, 4, 5))
        self.assertIsNone(parted_by(book, [((0, 1, 2, 3, 4, 5), (0, 1, 3, 4, 5))]))

    def test_seven(self):
        rand = random.Random(84)
        book = Book(7, ((0, 1), (1, 2, 3), (2, 4), (3, 4, 5), (5, 6)))
        sightings = random_sightings(rand, book, 2, 0)
        self.going_through(book, sightings, [(0, 1, 2, 3, 4, 5, 6), (1, 2, 4, 6)])
        self.raises(TooMany, parted_by, book, sightings, most=6)

    def test_great(self):
        rand = random.Random(85)
        for book in plain.great_books():
            order = tuple(rand.sample(range(book.people), book.people))
            crowds = [plain.random_crowd(rand, book.people) for _ in range(6)]
            sightings = [(crowd, plain.let_in(book.lots, order, crowd)) for crowd in crowds]
            for a, b in surely_ahead(book, sightings):
                self.assertLess(order.index(a), order.index(b))
            for crowd, seen in sightings:
                if len(crowd) <= 8:
                    wanted = {person: "in" if person in seen else "out" for person in crowd}
                    self.assertEqual(verdicts(book, sightings, crowd), wanted)
            crowd = tuple(sorted(rand.sample(range(book.people), 8)))
            inside = plain.let_in(book.lots, order, crowd)
            for person, word in verdicts(book, sightings, crowd).items():
                self.assertIn(word, ("in", "open") if person in inside else ("out", "open"))

    def test_eight(self):
        wanted = {person: "open" for person in range(8)}
        self.assertEqual(verdicts(HALVES, [], NINE[:8]), wanted)
        wanted = {**wanted, 0: "out", 1: "in", 6: "in", 7: "out"}
        self.assertEqual(verdicts(HALVES, [((0, 1), (1,)), ((6, 7, 8), (6, 8))], NINE[:8]), wanted)
        self.assertEqual(surely_ahead(HALVES, [((0, 1), (1,)), ((6, 7, 8), (6, 8))]), [(1, 0), (6, 7)])
        del wanted[3]
        self.assertEqual(verdicts(HALVES, [((0, 1), (1,)), ((6, 7, 8), (6, 8))], (0, 1, 2, 4, 5, 6, 7, 8)),
                         {**wanted, 2: "in", 8: "in"})
        self.raises(TooMany, verdicts, HALVES, [], NINE, most=8)
        self.raises(TooMany, verdicts, Book(12, ()), [], tuple(range(12)), most=8)
        self.assertEqual(verdicts(Book(12, ()), [], tuple(range(4, 12))), {person: "in" for person in range(4, 12)})

    def test_no_list(self):
        lot_in = [((0, 1), (0, 1))]
        for book, sightings in ((PAIRS, NEVER), (PAIRS, lot_in), (Book(1, ()), [((0,), ())]), (PAIRS, SEEN + NEVER)):
            for call in (surely_ahead, parted_by):
                self.raises(NoList, call, book, sightings)
            self.raises(NoList, verdicts, book, sightings, ())
            self.raises(NoList, verdicts, book, sightings, (0,))

    def test_order_of_errors(self):
        # All four are wrong, then one less each time.
        bad = [((0,), (1,))]
        self.raises(NoSightings, verdicts, HALVES, bad, None)
        self.raises(NoSightings, verdicts, HALVES, bad, NINE)
        self.raises(NoCrowd, verdicts, HALVES, NEVER, None)
        self.raises(NoCrowd, verdicts, HALVES, NEVER, NINE + (9,))
        self.raises(NoList, verdicts, HALVES, NEVER, NINE)
        self.raises(TooMany, verdicts, HALVES, [], NINE, most=8)
        self.raises(NoSightings, parted_by, HALVES, bad)
        self.raises(NoList, parted_by, HALVES, NEVER)
        self.raises(TooMany, parted_by, HALVES, [], most=6)
        self.raises(TooMany, parted_by, Book(7, ()), [], most=6)

    def test_no_crowd(self):
        for wrong in plain.bad_crowds(3):
            for sightings in (SEEN, NEVER, []):
                self.raises(NoCrowd, verdicts, PAIRS, sightings, wrong)

    def test_new(self):
        self.is_new(surely_ahead, PAIRS, [((0, 1), (1,))])
        self.is_new(verdicts, PAIRS, SEEN, (0, 1, 2))
        self.leaves(verdicts, PAIRS, SEEN, (0, 1, 2))
        self.leaves(surely_ahead, PAIRS, SEEN)
        self.leaves(parted_by, PAIRS, SEEN)

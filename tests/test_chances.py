"""By lot (13.1)."""

import math
import random
import unittest
from itertools import combinations

from lastoflot.books import Book, bases
from lastoflot.chances import chances, mean_number, outcomes_by_lot
from lastoflot.errors import NoCrowd, TooMany
from tests import plain
from tests.plain import Checks

PAIRS = Book(3, ((0, 1), (1, 2)))
EIGHT = tuple(range(8))


def share(top, bottom):
    shared = math.gcd(top, bottom)
    return (top // shared, bottom // shared)


def counted(book, crowd):
    """The dict from the crowds that some list lets in to how many lists do, by going through all lists."""
    found = {}
    for order in plain.lists(book.people):
        inside = plain.let_in(book.lots, order, crowd)
        found[inside] = found.get(inside, 0) + 1
    return found


class ChanceTest(Checks, unittest.TestCase):
    def told(self, book, crowd, counts):
        """Checks all three, by how many lists let in each crowd."""
        every = sum(counts.values())
        told = (book.people, book.lots, crowd)
        wanted = {inside: share(many, every) for inside, many in counts.items()}
        self.assertEqual(outcomes_by_lot(book, crowd), wanted, told)
        self.assertEqual(sorted(wanted), bases(book, crowd), told)
        wanted = {person: share(sum(many for inside, many in counts.items() if person in inside), every)
                  for person in crowd}
        self.assertEqual(chances(book, crowd), wanted, told)
        wanted = share(sum(many * len(inside) for inside, many in counts.items()), every)
        found = mean_number(book, crowd)
        self.assertIsInstance(found, tuple)
        self.assertEqual(found, wanted, told)

    def test_going_through(self):
        for book in plain.fair_books():
            for crowd in plain.crowds(book.people):
                self.told(book, crowd, counted(book, crowd))

    def test_six(self):
        rand = random.Random(171)
        for many in (3, 6, 9):
            book = plain.random_book(rand, 6, many)
            for crowd in [tuple(range(6))] + [plain.random_crowd(rand, 6) for _ in range(3)]:
                self.told(book, crowd, counted(book, crowd))

    def test_named(self):
        self.assertEqual(chances(PAIRS, (0, 1, 2)), {0: (2, 3), 1: (1, 3), 2: (2, 3)})
        self.assertEqual(mean_number(PAIRS, (0, 1, 2)), (5, 3))
        self.assertEqual(outcomes_by_lot(PAIRS, (0, 1, 2)), {(0, 2): (2, 3), (1,): (1, 3)})
        self.assertEqual(chances(PAIRS, (0, 2)), {0: (1, 1), 2: (1, 1)})
        self.assertEqual(mean_number(PAIRS, (0, 1)), (1, 1))

    def test_nobody(self):
        for book in (PAIRS, Book(1, ()), Book(12, ())):
            self.assertEqual(chances(book, ()), {})
            self.assertEqual(mean_number(book, ()), (0, 1))
            self.assertEqual(outcomes_by_lot(book, ()), {(): (1, 1)})

    def test_lots_that_reach_out(self):
        book = Book(12, ((0, 1), (0, 2, 11), (1, 2, 3), (2, 3, 10), (4, 5, 6, 7), (8, 9)))
        inner = Book(4, ((0, 1), (1, 2, 3)))
        self.told(book, (0, 1, 2, 3), counted(inner, (0, 1, 2, 3)))
        self.told(book, (2, 3, 11), {(2, 3, 11): 1})
        self.told(book, (4, 6, 7, 8), {(4, 6, 7, 8): 1})
        self.told(book, (8, 9, 10), {(8, 10): 1, (9, 10): 1})

    def test_great(self):
        rand = random.Random(172)
        for book in plain.great_books():
            for size in (1, 3, 5):
                crowd = tuple(sorted(rand.sample(range(book.people), size)))
                names = {person: k for k, person in enumerate(crowd)}
                lots = tuple(tuple(names[person] for person in lot) for lot in book.lots if plain.within(lot, crowd))
                counts = counted(Book(size, lots), tuple(range(size)))
                counts = {tuple(crowd[k] for k in inside): many for inside, many in counts.items()}
                self.told(book, crowd, counts)

    def test_eight(self):
        # Whoever of two comes first is let in, four times over.
        book = Book(12, ((0, 1), (2, 3), (4, 5), (6, 7), (8, 9, 10, 11)))
        counts = {}
        for bits in range(16):
            counts[tuple(2 * k + (bits >> k & 1) for k in range(4))] = 1
        self.told(book, EIGHT, counts)
        # All pairs: only the first one; all triples: the first two.
        self.told(Book(9, tuple(combinations(EIGHT, 2))), EIGHT, {(person,): 1 for person in EIGHT})
        self.told(Book(12, tuple(combinations(EIGHT, 3))), EIGHT, {pair: 1 for pair in combinations(EIGHT, 2)})
        # A star: the middle one alone if first, all others else.
        star = Book(8, tuple((0, k) for k in range(1, 8)))
        self.told(star, EIGHT, {(0,): 1, EIGHT[1:]: 7})
        self.assertEqual(mean_number(star, EIGHT), (25, 4))
        whole = Book(8, (EIGHT,))
        self.told(whole, EIGHT, {part: 1 for part in combinations(EIGHT, 7)})
        self.told(Book(12, ()), tuple(range(4, 12)), {tuple(range(4, 12)): 1})

    def test_eight_by_orders(self):
        rand = random.Random(173)
        book = plain.random_book(rand, 8, 7)
        found = outcomes_by_lot(book, EIGHT)
        self.assertEqual(sorted(found), bases(book, EIGHT))
        self.assertEqual(sum(top * math.factorial(8) // bottom for top, bottom in found.values()), math.factorial(8))
        for top, bottom in [*found.values(), *chances(book, EIGHT).values(), mean_number(book, EIGHT)]:
            self.assertEqual((math.gcd(top, bottom), math.factorial(8) % bottom), (1, 0))
        self.assertEqual(len(chances(book, EIGHT)), 8)

    def test_too_many(self):
        for book in (Book(9, ()), Book(12, ((0, 1), (2, 3)))):
            for crowd in (tuple(range(9)), tuple(range(book.people))):
                for call in (chances, mean_number, outcomes_by_lot):
                    self.raises(TooMany, call, book, crowd, most=8)

    def test_no_crowd(self):
        for call in (chances, mean_number, outcomes_by_lot):
            for wrong in plain.bad_crowds(3):
                self.raises(NoCrowd, call, PAIRS, wrong)
            for wrong in (tuple(range(9)), tuple(range(13)), [0, 1], list(range(9)), (0,) * 9, tuple(range(9, 0, -1))):
                self.raises(NoCrowd, call, Book(8, ()), wrong)
                if wrong != tuple(range(9)):
                    self.raises(NoCrowd, call, Book(12, ()), wrong)

    def test_new(self):
        self.is_new(chances, PAIRS, (0, 1, 2))
        self.is_new(outcomes_by_lot, PAIRS, (0, 1, 2))

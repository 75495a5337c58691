"""Books (1.1, 1.2)."""

import copy
import random
import unittest
from itertools import combinations

from lastoflot.books import Book, bases, book_of, is_clear
from lastoflot.errors import BadBook, NoCrowd, NoHeaps, NoPeople, TooMany
from lastoflot.offices import Office
from tests import plain
from tests.plain import Checks, strange

SIXTY = tuple(combinations(range(12), 2))[:60]
SIXTY_ONE = tuple(combinations(range(12), 2))[:61]
NO_PEOPLE = [0, 13, -1, 10 ** 59, True, False, None, "3", b"3", (3,), [3], {}, Book(3, ()), int]


class BookTest(Checks, unittest.TestCase):
    def bad_lots(self, people, lots, at):
        self.raises(BadBook, Book, people, lots, part="lots", at=at)

    def test_right_parts(self):
        for people in range(1, 13):
            book = Book(people, ())
            self.assertEqual((book.people, book.lots), (people, ()))
        book = Book(3, ((0, 1), (1, 2)))
        self.assertEqual((book.people, book.lots), (3, ((0, 1), (1, 2))))
        self.assertEqual(Book(12, (tuple(range(12)),)).lots, (tuple(range(12)),))
        self.assertEqual(len(Book(12, SIXTY).lots), 60)

    def test_people(self):
        for people in NO_PEOPLE:
            self.raises(BadBook, Book, people, (), part="people", at=-1)
        self.raises(BadBook, Book, 0, None, part="people", at=-1)
        self.raises(BadBook, Book, 13, ((0, 0),), part="people", at=-1)

    def test_lots_as_a_whole(self):
        for thing in strange():
            if not isinstance(thing, tuple) or len(thing) > 60:
                self.bad_lots(3, thing, -1)
        self.bad_lots(3, [(0, 1)], -1)
        self.bad_lots(12, SIXTY_ONE, -1)
        self.bad_lots(12, (None,) * 61, -1)
        self.bad_lots(12, list(SIXTY), -1)

    def test_items_that_are_no_lots(self):
        for wrong in plain.bad_crowds(4) + [(), (0,), (3,)]:
            self.bad_lots(4, (wrong,), 0)
            self.bad_lots(4, ((0, 1), wrong), 1)
            self.bad_lots(4, ((0, 1), wrong, (0, 0)), 1)
        self.bad_lots(4, ((0, 1), (0, 4)), 1)
        self.bad_lots(4, ((0, 1), (0, 2), (2,)), 2)
        self.bad_lots(4, ((0, 2), (0, 3, 2)), 1)
        self.bad_lots(4, ((0, 2), (1, 1)), 1)
        self.bad_lots(4, ((0, True),), 0)
        self.bad_lots(4, ((False, 1),), 0)
        self.bad_lots(4, ([0, 1],), 0)
        self.bad_lots(1, ((0, 1),), 0)

    def test_order(self):
        self.bad_lots(4, ((0, 1), (0, 1)), 1)
        self.bad_lots(4, ((0, 2), (0, 1)), 1)
        self.bad_lots(4, ((0, 1), (2, 3), (1, 2)), 2)
        self.bad_lots(4, ((1, 2), (0, 3), (0, 1)), 1)

    def test_within(self):
        self.bad_lots(4, ((0, 1), (0, 1, 2)), 1)
        self.bad_lots(4, ((0, 1, 2), (0, 2)), 1)
        self.bad_lots(4, ((0, 1, 2), (0, 3), (1, 2)), 2)
        self.bad_lots(5, ((0, 1), (0, 3), (1, 2, 3), (2, 3)), 3)
        self.bad_lots(5, ((0, 4), (1, 2), (1, 2, 3), (1, 3)), 2)
        self.bad_lots(5, ((0, 1, 2, 3), (0, 4), (1, 3)), 2)

    def test_last_of_sixty(self):
        self.bad_lots(12, SIXTY[:59] + (SIXTY[58],), 59)
        self.bad_lots(12, SIXTY[:59] + ((7, 10, 11),), 59)
        self.bad_lots(12, SIXTY[:59] + ((0, 11, 10),), 59)

    def test_equal(self):
        one = Book(3, ((0, 1), (1, 2)))
        self.assertTrue(one == Book(3, ((0, 1), (1, 2))))
        self.assertFalse(one != Book(3, ((0, 1), (1, 2))))
        self.assertFalse(one == Book(4, ((0, 1), (1, 2))))
        self.assertFalse(one == Book(3, ((0, 1), (0, 2))))
        self.assertFalse(one == Book(3, ((0, 1),)))
        self.assertTrue(one != Book(3, ()))

    def test_equal_to_no_other_kind(self):
        one = Book(2, ((0, 1),))
        for thing in strange() + [(2, ((0, 1),)), [2, ((0, 1),)], Office(one, (0, 1))]:
            if not isinstance(thing, Book):
                self.assertIs(one == thing, False)
                self.assertIs(thing == one, False)

    def test_equals_own_kind_alone(self):
        class Twin:
            people = 2
            lots = ((0, 1),)
        self.assertFalse(Book(2, ((0, 1),)) == Twin())


class ClearTest(Checks, unittest.TestCase):
    def test_all_crowds(self):
        for book in plain.fair_books():
            for crowd in plain.crowds(book.people):
                self.same_flag(plain.is_clear(book.lots, crowd), is_clear(book, crowd), book.lots, crowd)

    def test_great(self):
        rand = random.Random(1)
        for book in plain.great_books():
            for _ in range(100):
                crowd = tuple(sorted(rand.sample(range(book.people), rand.randint(0, book.people))))
                self.same_flag(plain.is_clear(book.lots, crowd), is_clear(book, crowd))

    def test_wrong_things(self):
        for people in (1, 3, 12):
            self.refuses(is_clear, Book(people, ()), things=plain.bad_crowds(people))
        self.accepts(is_clear, Book(3, ()), ())
        self.accepts(is_clear, Book(3, ()), (0, 1, 2))


class BookOfTest(Checks, unittest.TestCase):
    def test_any_order(self):
        rand = random.Random(2)
        for book in plain.fair_books() + plain.great_books():
            heaps = list(book.lots) * 2
            for lot in book.lots:
                wider = plain.joined(lot, rand.sample(range(book.people), 1))
                heaps.append(wider)
            rand.shuffle(heaps)
            for things in (heaps, tuple(heaps)):
                made = self.leaves(book_of, book.people, things)
                self.assertIsInstance(made, Book)
                self.assertEqual((made.people, made.lots), (book.people, book.lots))

    def test_least(self):
        rand = random.Random(3)
        for _ in range(60):
            people = rand.randint(2, 7)
            every = [crowd for crowd in plain.crowds(people) if len(crowd) > 1]
            heaps = [rand.choice(every) for _ in range(rand.randint(0, 12))]
            self.assertEqual(book_of(people, heaps).lots, plain.least_ones(heaps))

    def test_empty(self):
        self.assertEqual(book_of(1, ()), Book(1, ()))
        self.assertEqual(book_of(12, []), Book(12, ()))

    def test_heaps_stay(self):
        heaps = [(1, 2), (0, 1, 2), (0, 1)]
        before = copy.deepcopy(heaps)
        book = book_of(3, heaps)
        self.assertEqual(heaps, before)
        heaps.append((0, 2))
        self.assertEqual(book.lots, ((0, 1), (1, 2)))

    def test_how_many_heaps(self):
        self.assertEqual(book_of(3, ((0, 1),) * 200).lots, ((0, 1),))
        self.assertEqual(book_of(3, [(0, 1)] * 200).lots, ((0, 1),))
        self.raises(NoHeaps, book_of, 3, ((0, 1),) * 201)
        self.raises(NoHeaps, book_of, 3, [(0, 1)] * 201)

    def test_how_many_left(self):
        every = list(combinations(range(12), 2))
        self.assertEqual(book_of(12, every[:60][::-1]).lots, SIXTY)
        self.raises(TooMany, book_of, 12, every[:61], most=60)
        self.raises(TooMany, book_of, 12, tuple(every), most=60)
        triples = list(combinations(range(12), 3))[:140]
        self.assertEqual(book_of(12, triples + every[:60]).lots, SIXTY)
        self.raises(TooMany, book_of, 12, triples, most=60)
        self.assertEqual(book_of(12, SIXTY + tuple(plain.joined(SIXTY[0], (k,)) for k in range(12))[2:]).lots, SIXTY)

    def test_errors(self):
        for people in NO_PEOPLE:
            self.raises(NoPeople, book_of, people, ())
            self.raises(NoPeople, book_of, people, None)
        for thing in strange():
            if thing not in ([], ()):
                self.raises(NoHeaps, book_of, 3, thing)
        for wrong in plain.bad_crowds(3) + [(), (0,), (0, 3)]:
            self.raises(NoHeaps, book_of, 3, [(0, 1), wrong])
            self.raises(NoHeaps, book_of, 3, (wrong, (0, 1)))
        self.raises(NoHeaps, book_of, 3, {(0, 1): 1})
        self.raises(NoHeaps, book_of, 12, SIXTY_ONE + ((0,),))


class BasesTest(Checks, unittest.TestCase):
    def plain_bases(self, lots, crowd):
        clear = [part for size in range(len(crowd) + 1) for part in combinations(crowd, size)
                 if plain.is_clear(lots, part)]
        return sorted(part for part in clear
                      if not any(part != other and plain.within(part, other) for other in clear))

    def test_all_crowds(self):
        for book in plain.fair_books():
            for crowd in plain.crowds(book.people):
                self.assertEqual(bases(book, crowd), self.plain_bases(book.lots, crowd))

    def test_named_edges(self):
        shared = Book(4, ((0, 1), (1, 2), (2, 3)))
        self.assertEqual(bases(shared, ()), [()])
        self.assertEqual(bases(shared, (0, 2)), [(0, 2)])
        self.assertEqual(bases(shared, (0, 1, 2, 3)), [(0, 2), (0, 3), (1, 3)])
        self.assertEqual(bases(Book(4, ((0, 1), (2, 3))), (0, 1, 2, 3)), [(0, 2), (0, 3), (1, 2), (1, 3)])

    def test_great(self):
        pairs = Book(12, tuple((2 * k, 2 * k + 1) for k in range(6)))
        found = bases(pairs, tuple(range(12)))
        self.assertEqual(len(found), 64)
        self.assertEqual(found, sorted(found))
        self.assertEqual(bases(Book(12, ()), tuple(range(12))), [tuple(range(12))])

    def test_new(self):
        self.is_new(bases, Book(3, ((0, 1),)), (0, 1, 2))

    def test_errors(self):
        for people in (1, 4):
            for wrong in plain.bad_crowds(people):
                self.raises(NoCrowd, bases, Book(people, ()), wrong)

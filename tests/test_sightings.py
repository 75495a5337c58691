"""Sightings, bars to lists, and what is to be dropped (7.1, 7.2, 7.4)."""

import math
import random
import unittest
from itertools import combinations, product

from lastoflot.books import Book
from lastoflot.errors import NoSightings, TooMany
from lastoflot.offices import Office
from lastoflot.sightings import (
    bar_to_lists, dropped, fewest_dropped, fitting, is_bar_to_lists, is_dropped, is_fitting, many_fitting)
from lastoflot.verdicts import parted_by, surely_ahead, verdicts
from tests import plain
from tests.plain import Checks, strange

PAIRS = Book(3, ((0, 1), (1, 2)))
SEEN = [((0, 1, 2), (0, 2))]
TWELVE = tuple(range(12))


def plain_fitting(book, sightings):
    """All lists that fit, ascending."""
    return [order for order in plain.lists(book.people)
            if all(plain.let_in(book.lots, order, crowd) == seen for crowd, seen in sightings)]


def random_sightings(rand, book, many, wrong=0.2):
    """So many sightings of a list that is not told, some of them perhaps of another one, or of none."""
    order = rand.sample(range(book.people), book.people)
    found = []
    for _ in range(many):
        crowd = plain.random_crowd(rand, book.people)
        seen = plain.let_in(book.lots, order, crowd)
        if rand.random() < wrong:
            seen = plain.let_in(book.lots, rand.sample(order, book.people), crowd)
        if rand.random() < wrong / 3:
            seen = tuple(person for person in crowd if rand.random() < 0.7)
        found.append((crowd, seen))
    return found


def cases(seed, wrong=0.2):
    """Pairs of a book and sightings, of up to five people."""
    rand = random.Random(seed)
    found = []
    for book in plain.fair_books():
        for many in (0, 1, 2, 3, 5):
            found.append((book, random_sightings(rand, book, many, wrong)))
    for k in range(10):
        book = plain.random_book(random.Random(k), 5, 6)
        found.append((book, random_sightings(rand, book, 3, 0.1)))
    return found


def wrong_sightings():
    """Things that are no sightings of three people."""
    found = [thing for thing in strange() if thing != []]
    found += [SEEN * 21, tuple(SEEN) * 21, SEEN[0], {0: SEEN[0]}, {SEEN[0]: True}, iter(SEEN), "", b"", range(0)]
    items = [
        ((0, 1, 2),), ((0, 1, 2), (0, 2), ()), [(0, 1, 2), (0, 2)], ([0, 1, 2], (0, 2)), ((0, 1, 2), [0, 2]),
        ((0, 2), (0, 1)), ((0,), (1,)), ((), (0,)), ((1, 2), (0, 1, 2)), ((0, 1, 3), (0,)), ((0, 1, 2), (0, 3)),
        ((2, 1, 0), (0, 2)), ((0, 1, 2), (2, 0)), ((0, 0, 1), (0,)), ((0, 1, 2), (0, 0)), ((False, 1), (1,)),
        ((0, True), (0,)), ((0, 1), (False,)), ((0, 1), (True,)), ((-1, 0), (0,)), ((0, 1), (-1,)), ((0, 1), None),
        (None, (0, 1)), ("01", "0"), (("0", "1"), ("0",)), ((0, 1), 0), (0, (0,)), None, 0, (), [], {}, True, PAIRS,
        ((0, 1), {}), ({}, ()), ((0, 1), []), ([], ()),
    ]
    for item in items:
        found += [[item], (item,), [SEEN[0], item], (SEEN[0], item), SEEN * 19 + [item]]
    return found


class SightingsTest(Checks, unittest.TestCase):
    def test_wrong_ones(self):
        for wrong in wrong_sightings():
            told = repr(wrong)[:200]
            for call in (fitting, many_fitting, bar_to_lists, fewest_dropped, dropped, surely_ahead, parted_by):
                with self.subTest(call=call.__name__, told=told):
                    self.raises(NoSightings, call, PAIRS, wrong)
            for call in (is_fitting, is_bar_to_lists, is_dropped, verdicts):
                for thing in ((), (0, 1, 2), None):
                    with self.subTest(call=call.__name__, told=told):
                        self.raises(NoSightings, call, PAIRS, wrong, thing)

    def test_right_ones(self):
        for right in ([], (), SEEN, tuple(SEEN), SEEN * 20, tuple(SEEN) * 20, [((), ())], (((1,), (1,)),),
                      [((0, 1, 2), ())], [((0, 1, 2), (0, 1, 2))], [((0, 1), (1,)), ((0, 1), (0,))]):
            self.leaves(fitting, PAIRS, right)
            self.leaves(many_fitting, PAIRS, right)
            self.leaves(bar_to_lists, PAIRS, right)
            self.leaves(is_fitting, PAIRS, right, (0, 1, 2))
            self.leaves(is_bar_to_lists, PAIRS, right, ())
            self.leaves(is_dropped, PAIRS, right, ())
            if len(right) <= 12:
                self.leaves(dropped, PAIRS, right)
                self.leaves(fewest_dropped, PAIRS, right)

    def test_going_through(self):
        counts = []
        for book, sightings in cases(71):
            wanted = plain_fitting(book, sightings)
            counts.append(len(wanted))
            told = (book.lots, sightings)
            self.assertEqual(fitting(book, sightings), wanted[0] if wanted else None, told)
            self.assertEqual(many_fitting(book, sightings), len(wanted), told)
            for order in plain.lists(book.people):
                self.same_flag(order in wanted, is_fitting(book, sightings, order), told, order)
        self.assertGreater(counts.count(0), 10)
        self.assertGreater(len(counts) - counts.count(0), 40)

    def test_any_order(self):
        rand = random.Random(72)
        for book, sightings in cases(73):
            other = rand.sample(sightings, len(sightings))
            for things in (other, tuple(other), tuple(sightings), sightings + sightings):
                self.assertEqual(fitting(book, things), fitting(book, sightings))
                self.assertEqual(many_fitting(book, things), many_fitting(book, sightings))

    def test_none(self):
        for people in range(1, 13):
            book = Book(people, tuple(combinations(range(people), 2))[:60])
            for sightings in ([], ()):
                self.assertEqual(fitting(book, sightings), tuple(range(people)))
                self.assertEqual(many_fitting(book, sightings), math.factorial(people))
                self.accepts(is_fitting, book, sightings, tuple(range(people))[::-1])
                self.assertIsNone(bar_to_lists(book, sightings))
                self.assertEqual((fewest_dropped(book, sightings), dropped(book, sightings)), (0, ()))
                self.accepts(is_dropped, book, sightings, ())

    def test_twenty(self):
        book = Book(4, ((0, 1), (0, 2), (1, 2, 3)))
        rand = random.Random(74)
        for _ in range(10):
            sightings = random_sightings(rand, book, 20, 0.02)
            wanted = plain_fitting(book, sightings)
            for things in (sightings, tuple(sightings)):
                self.assertEqual(many_fitting(book, things), len(wanted))
                self.assertEqual(fitting(book, things), wanted[0] if wanted else None)
                self.assertEqual(bar_to_lists(book, things) is None, wanted != [])
                self.same_flag(wanted, is_dropped(book, things, ()))
                self.accepts(is_dropped, book, things, tuple(range(20)))
                self.raises(NoSightings, fitting, book, [*things, sightings[0]])

    def test_one_behind_another(self):
        book = Book(12, ((0, 11),))
        sightings = [((0, 11), (11,))]
        self.assertEqual(fitting(book, sightings), (1, 2, 3, 4, 5, 6, 7, 8, 9, 10, 11, 0))
        self.assertEqual(many_fitting(book, sightings), math.factorial(12) // 2)
        either = Book(12, ((0, 1), (0, 2)))
        sightings = [((0, 1, 2), (1, 2))]
        self.assertEqual(fitting(either, sightings), (1, 0, 2, 3, 4, 5, 6, 7, 8, 9, 10, 11))
        self.assertEqual(many_fitting(either, sightings), math.factorial(12) * 2 // 3)
        sightings = [((0, 1, 2, 5), (1, 2, 5)), ((0, 1), (0,))]
        self.assertEqual(fitting(either, sightings), (2, 0, 1, 3, 4, 5, 6, 7, 8, 9, 10, 11))
        self.assertEqual(many_fitting(either, sightings), math.factorial(12) // 6)

    def test_all_behind(self):
        # One person is out by a lot of all others: all of them stand ahead.
        book = Book(12, (TWELVE,))
        sightings = [(TWELVE, TWELVE[:4] + TWELVE[5:])]
        self.assertEqual(fitting(book, sightings), TWELVE[:4] + TWELVE[5:] + (4,))
        self.assertEqual(many_fitting(book, sightings), math.factorial(11))
        self.assertIsNone(fitting(book, sightings + [(TWELVE, TWELVE[1:])]))
        self.assertEqual(many_fitting(book, sightings + [(TWELVE, TWELVE[1:])]), 0)
        self.assertIsNone(fitting(book, [(TWELVE, TWELVE[:4] + TWELVE[6:])]))

    def test_great(self):
        rand = random.Random(75)
        for book in plain.great_books():
            order = tuple(rand.sample(range(book.people), book.people))
            for many in (1, 4, 20):
                crowds = [plain.random_crowd(rand, book.people) for _ in range(many)]
                sightings = [(crowd, plain.let_in(book.lots, order, crowd)) for crowd in crowds]
                self.accepts(is_fitting, book, sightings, order)
                self.assertIsNone(bar_to_lists(book, sightings))
                found = fitting(book, sightings)
                self.assertLessEqual(found, order)
                for crowd, seen in sightings:
                    self.assertEqual(plain.let_in(book.lots, found, crowd), seen)
                self.assertGreaterEqual(many_fitting(book, sightings), 1 if found == order else 2)
                self.least_of_nearby(book, sightings, found)

    def least_of_nearby(self, book, sightings, found):
        """Checks that no list fits that two exchanged persons of this one make, if it is lesser."""
        for i, j in combinations(range(book.people), 2):
            other = list(found)
            other[i], other[j] = other[j], other[i]
            if tuple(other) < found:
                wanted = all(plain.let_in(book.lots, other, crowd) == seen for crowd, seen in sightings)
                self.assertFalse(wanted)
                self.same_flag(False, is_fitting(book, sightings, tuple(other)))

    def test_wrong_lists(self):
        for sightings in ([], SEEN, [((0, 1), (0, 1))]):
            self.refuses(is_fitting, PAIRS, sightings, things=plain.bad_lists(3))
        self.accepts(is_fitting, PAIRS, SEEN, (0, 2, 1))
        self.refuses(is_fitting, PAIRS, SEEN, things=[(1, 0, 2), (1, 2, 0), (0, 2, True), [0, 2, 1], (0, 2, 1, 1)])

    def test_answers_of_office(self):
        office = Office(PAIRS, (2, 1, 0))
        self.refuses(is_fitting, PAIRS, SEEN, things=[office, office.book, (office.order,)])
        self.accepts(is_fitting, PAIRS, SEEN, office.order)


def is_right_bar(book, sightings, bar):
    """Whether a thing that has the form of a bar is one."""
    word, first, second = bar
    if word == "lot":
        return second in book.lots and set(second) <= set(sightings[first][1])
    for person, k in zip(first, second):
        crowd, seen = sightings[k]
        if person not in crowd or person in seen:
            return False
        for lot in book.lots:
            if person in lot and set(lot) <= set(seen) | {person} and not (set(lot) - {person}) & set(first):
                return False
    return first != () and len(first) == len(second)


def all_bars(book, sightings):
    """All things that have the form of a bar."""
    crowds = plain.crowds(book.people)
    found = [("lot", k, crowd) for k in range(len(sightings)) for crowd in crowds]
    for crowd in crowds[1:]:
        found += [("heap", crowd, numbers) for numbers in product(range(len(sightings)), repeat=len(crowd))]
    return found


class BarTest(Checks, unittest.TestCase):
    def judged(self, book, sightings):
        """Checks all bars there are, and returns how many are right of each kind."""
        right = []
        for bar in all_bars(book, sightings):
            wanted = is_right_bar(book, sightings, bar)
            self.same_flag(wanted, is_bar_to_lists(book, sightings, bar), book.lots, sightings, bar)
            if wanted:
                right.append(bar)
        found = bar_to_lists(book, sightings)
        self.assertEqual(found is None, not right, (book.lots, sightings))
        self.assertEqual(right == [], plain_fitting(book, sightings) != [], (book.lots, sightings))
        if right:
            self.assertIn(found, right)
            self.accepts(is_bar_to_lists, book, sightings, found)
        return {word for word, _, _ in right}

    def test_going_through(self):
        rand = random.Random(76)
        words = []
        for book in plain.small_books():
            for many in (1, 2, 3, 3):
                words.append(self.judged(book, random_sightings(rand, book, many, 0.4)))
        for word in ("lot", "heap"):
            self.assertGreater(len([found for found in words if found == {word}]), 1)
        self.assertGreater(words.count(set()), 20)

    def test_heap_alone(self):
        book = Book(3, ((0, 1), (1, 2)))
        self.assertEqual(self.judged(book, [((0, 1, 2), (0,))]), {"heap"})
        self.assertEqual(self.judged(book, [((0, 1), (0,)), ((1, 2), (1,)), ((0, 2), (0, 2))]), set())
        self.assertEqual(self.judged(book, [((0, 1), (0,)), ((0, 1), (1,))]), {"heap"})
        self.assertEqual(self.judged(book, [((0, 1), (0, 1))]), {"lot"})
        self.assertEqual(self.judged(book, [((0, 1, 2), (0, 1))]), {"lot"})
        self.assertEqual(self.judged(Book(3, ()), [((0,), ())]), {"heap"})

    def test_both_kinds_one_by_one(self):
        sightings = [((0, 1), (0,)), ((0, 1), (1,)), ((0, 1, 2), (0, 1, 2)), ((2,), ())]
        for right in (("lot", 2, (0, 1)), ("lot", 2, (1, 2)), ("heap", (0, 1), (1, 0)), ("heap", (2,), (3,)),
                      ("heap", (0, 1, 2), (1, 0, 3))):
            self.accepts(is_bar_to_lists, PAIRS, sightings, right)
            self.accepts(is_bar_to_lists, PAIRS, tuple(sightings), right)
        wrong = [
            ["lot", 2, (0, 1)], ("lot", 2), ("lot", 2, (0, 1), 0), ("lots", 2, (0, 1)), ("heap", 2, (0, 1)),
            (b"lot", 2, (0, 1)), ("lot", 4, (0, 1)), ("lot", -2, (0, 1)), ("lot", -1, (0, 1)), ("lot", "2", (0, 1)),
            ("lot", None, (0, 1)), ("lot", 2, [0, 1]), ("lot", 2, (0, 2)), ("lot", 2, (0, 1, 2)), ("lot", 2, (1, 0)),
            ("lot", 2, (False, True)), ("lot", 2, (0, True)), ("lot", 0, (0, 1)), ("lot", 3, (1, 2)), ("lot", 2, ()),
            ("lot", 2, None), ("lot", (2,), (0, 1)), ("lot", (0, 1), (1, 0)), ("lot", 10 ** 59, (0, 1)), ("", 2, (0, 1)),
            (None, 2, (0, 1)), ((2,), 2, (0, 1)), ("LOT", 2, (0, 1)),
            ["heap", (0, 1), (1, 0)], ("heaps", (0, 1), (1, 0)), ("", (0, 1), (1, 0)), (None, (0, 1), (1, 0)),
            (b"heap", (0, 1), (1, 0)), (("heap",), (0, 1), (1, 0)), (0, (2,), (3,)), ("heap", (0, 1)), ("heap", (0, 1), (1, 0), 0), ("heap", [0, 1], (1, 0)),
            ("heap", (0, 1), [1, 0]), ("heap", (0, 1), (0, 1)), ("heap", (0, 1), (1, 1)), ("heap", (0, 1), (0, 0)),
            ("heap", (1, 0), (0, 1)), ("heap", (0, 1), (1,)), ("heap", (0, 1), (1, 0, 0)), ("heap", (0,), (1,)),
            ("heap", (1,), (0,)), ("heap", (), ()), ("heap", (0, 1), (True, False)), ("heap", (False, True), (1, 0)),
            ("heap", (0, True), (1, 0)), ("heap", (0, 1), (1, False)), ("heap", (0, 1), (-3, 0)),
            ("heap", (0, 1), (1, -4)), ("heap", (0, 1), (1, 4)), ("heap", (2,), (-1,)), ("heap", (2,), (2,)),
            ("heap", (3,), (3,)), ("heap", (0, 0), (1, 1)), ("heap", (0, 1), {0: 1, 1: 0}), ("heap", (0, 1), None),
            ("heap", None, (1, 0)), ("heap", (0, 1), ("1", "0")), ("heap", (0, 1), ((1,), (0,))), ("heap", 0, 1),
            ("lot", (0, 1), (1, 0)), ("heap", (0, 1, 3), (1, 0, 3)), ("heap", (0, 1), 1), ("heap", {}, {}), (), ("heap",),
        ]
        self.refuses(is_bar_to_lists, PAIRS, sightings, things=wrong + strange())
        self.refuses(is_bar_to_lists, PAIRS, [], things=wrong + strange() + [("heap", (), ()), ("lot", 0, (0, 1))])

    def test_flag_for_number(self):
        sightings = [((0, 1), (0, 1)), ((0, 1), (0, 1))]
        self.accepts(is_bar_to_lists, PAIRS, sightings, ("lot", 0, (0, 1)))
        self.refuses(is_bar_to_lists, PAIRS, sightings, things=[("lot", False, (0, 1)), ("lot", True, (0, 1))])
        sightings = [((0,), ()), ((0,), ())]
        self.accepts(is_bar_to_lists, PAIRS, sightings, ("heap", (0,), (1,)))
        self.refuses(is_bar_to_lists, PAIRS, sightings, things=[("heap", (0,), (True,)), ("heap", (False,), (1,))])

    def test_somebody_else(self):
        # 0 and 1 keep each other out, but the lot (0, 2) lets 0 be out without 1.
        book = Book(3, ((0, 1), (0, 2)))
        sightings = [((0, 1, 2), (1, 2)), ((0, 1), (0,))]
        self.refuses(is_bar_to_lists, book, sightings, things=[("heap", (0, 1), (0, 1))])
        sightings = [((0, 1), (1,)), ((0, 1), (0,))]
        self.accepts(is_bar_to_lists, book, sightings, ("heap", (0, 1), (0, 1)))

    def test_great(self):
        rand = random.Random(77)
        found = []
        for book in plain.great_books():
            for many in (2, 3, 5, 8, 20):
                sightings = random_sightings(rand, book, many, 0.1)
                bar = bar_to_lists(book, sightings)
                found.append(bar)
                self.assertEqual(bar is None, fitting(book, sightings) is not None)
                self.assertEqual(bar is None, many_fitting(book, sightings) > 0)
                if bar is not None:
                    self.assertTrue(is_right_bar(book, sightings, bar))
                    self.accepts(is_bar_to_lists, book, sightings, bar)
        self.assertIn(None, found)
        self.assertIn("lot", [bar[0] for bar in found if bar])
        self.assertIn("heap", [bar[0] for bar in found if bar])


def numbers_dropped(book, sightings):
    """All ascending tuples of numbers of sightings without which some list fits, fewest first."""
    orders = plain.lists(book.people)
    sets = [{order for order in orders if plain.let_in(book.lots, order, crowd) == seen} for crowd, seen in sightings]
    found = []
    for chosen in plain.crowds(len(sightings)):
        left = set(orders)
        for k, fits in enumerate(sets):
            if k not in chosen:
                left &= fits
        if left:
            found.append(chosen)
    return found


class DroppedTest(Checks, unittest.TestCase):
    def going_through(self, book, sightings):
        wanted = numbers_dropped(book, sightings)
        told = (book.lots, sightings)
        self.assertEqual(fewest_dropped(book, sightings), len(wanted[0]), told)
        self.assertEqual(dropped(book, sightings), wanted[0], told)
        self.assertIsInstance(dropped(book, sightings), tuple)
        right = set(wanted)
        for chosen in plain.crowds(len(sightings)):
            self.same_flag(chosen in right, is_dropped(book, sightings, chosen), told, chosen)
        return len(wanted[0])

    def test_few(self):
        counts = [self.going_through(book, sightings) for book, sightings in cases(78, 0.6)]
        self.assertGreaterEqual(max(counts), 2)

    def test_many(self):
        rand = random.Random(79)
        counts = []
        for book in (PAIRS, Book(4, ((0, 1), (1, 2), (2, 3))), Book(4, ((0, 1, 2), (1, 3), (2, 3))), Book(4, ())):
            for many in (7, 8):
                counts.append(self.going_through(book, random_sightings(rand, book, many, 0.7)))
        counts.append(self.going_through(PAIRS, random_sightings(rand, PAIRS, 12, 0.6)))
        self.assertGreaterEqual(max(counts), 4)

    def test_all(self):
        hopeless = [((0, 1), (0, 1)), ((0,), ())] * 6
        self.assertEqual(fewest_dropped(PAIRS, hopeless), 12)
        self.assertEqual(dropped(PAIRS, hopeless), TWELVE)
        self.accepts(is_dropped, PAIRS, hopeless, TWELVE)
        self.refuses(is_dropped, PAIRS, hopeless, things=[TWELVE[1:], TWELVE[:11], TWELVE[:5] + TWELVE[6:], ()])

    def test_least(self):
        one, other = ((0, 1), (0,)), ((0, 1), (1,))
        self.assertEqual(dropped(PAIRS, [one, other]), (0,))
        self.assertEqual(dropped(PAIRS, [one, one, other]), (2,))
        self.assertEqual(dropped(PAIRS, [one, other, other, one]), (0, 3))
        self.assertEqual(dropped(PAIRS, [one, ((2,), ()), other]), (0, 1))
        self.assertEqual(dropped(PAIRS, [((2,), ()), other, other]), (0,))
        self.assertEqual(dropped(PAIRS, (one, one)), ())

    def test_how_many(self):
        for sightings in (SEEN * 12, tuple(SEEN) * 12):
            self.assertEqual((fewest_dropped(PAIRS, sightings), dropped(PAIRS, sightings)), (0, ()))
        hopeless = [((0, 1), (0, 1))]
        for many in (13, 14, 20):
            for sightings in (SEEN * many, tuple(SEEN) * many, hopeless * many):
                self.raises(TooMany, fewest_dropped, PAIRS, sightings, most=12)
                self.raises(TooMany, dropped, PAIRS, sightings, most=12)
                self.accepts(is_dropped, PAIRS, sightings, tuple(range(many)))
                self.same_flag(sightings[0] == SEEN[0], is_dropped(PAIRS, sightings, (0, 1)))
        self.raises(NoSightings, dropped, PAIRS, SEEN * 12 + [None])
        self.raises(NoSightings, fewest_dropped, PAIRS, SEEN * 21)

    def test_great(self):
        rand = random.Random(80)
        for book in plain.great_books():
            order = rand.sample(range(book.people), book.people)
            crowds = [plain.random_crowd(rand, book.people) for _ in range(7)]
            sightings = [(crowd, plain.let_in(book.lots, order, crowd)) for crowd in crowds]
            lot = book.lots[0]
            sightings[2:2] = [(lot, lot)]
            sightings[5:5] = [(lot, ())]
            self.assertEqual(dropped(book, sightings), (2, 5))
            self.assertEqual(fewest_dropped(book, sightings), 2)
            self.accepts(is_dropped, book, sightings, (0, 2, 5))

    def test_wrong_things(self):
        sightings = [((0, 1), (0,)), ((0, 1), (1,)), ((0, 1), (0, 1))]
        for right in ((0, 2), (1, 2), (0, 1, 2)):
            self.accepts(is_dropped, PAIRS, sightings, right)
        wrong = [
            [0, 2], (2, 0), (2, 1), (0, 0, 2), (0, 2, 2), (False, 2), (True, 2), (0, 1, 3), (0, 2, 3), (-1, 0), (0, -1),
            (-3, 2), ("0", "2"), (0, 2, None), (0, (2,)), 2, {0: 0, 2: 2}, (), (0,), (1,), (2,), (0, 1), (0, 1, 2, 3),
            (2, 0, 1), (0, 1, 1, 2), (0, 10 ** 59), "02", None,
        ]
        self.refuses(is_dropped, PAIRS, sightings, things=wrong + strange())
        self.refuses(is_dropped, PAIRS, SEEN, things=strange() + [(0, 0), (False,), (1,), [0], []])
        self.accepts(is_dropped, PAIRS, SEEN, ())
        self.accepts(is_dropped, PAIRS, SEEN, (0,))
        self.refuses(is_dropped, PAIRS, SEEN * 2, things=[(True,), (False, 1), (0, True), (1, 0)])
        self.accepts(is_dropped, PAIRS, SEEN * 2, (0, 1))

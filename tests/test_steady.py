"""Steady offices (5.1 to 5.3)."""

import random
import unittest
from itertools import combinations

from lastoflot.books import Book
from lastoflot.errors import NoPair
from lastoflot.offices import Office
from lastoflot.steady import (
    below_unlike, clash, clash_pairs, is_below_unlike, is_last_in, is_recall, is_thirds, last_in, recall, steady,
    third_of, thirds)
from tests import plain
from tests.plain import Checks, strange

ROW = Office(Book(3, ((0, 1), (1, 2))), (0, 1, 2))
ROUND = Office(Book(3, ((0, 1), (0, 2), (1, 2))), (0, 1, 2))
FREE = Office(Book(3, ()), (0, 1, 2))


def plain_pairs(office):
    lots = office.book.lots
    found = []
    for i, one in enumerate(lots):
        for j, other in enumerate(lots):
            final = plain.last(office.order, one)
            if final in other and final != plain.last(office.order, other):
                found.append((i, j))
    return found


def plain_thirds(office, pair):
    """The ascending list of the numbers of the third lots of a clash pair."""
    lots = office.book.lots
    one, other = lots[pair[0]], lots[pair[1]]
    room = set(one) | set(other)
    room.remove(plain.last(office.order, one))
    final = plain.last(office.order, other)
    return [k for k, lot in enumerate(lots) if plain.last(office.order, lot) == final and set(lot) <= room]


def recalls(office):
    """All triples of a crowd, a comer, and one called back."""
    inside = plain.ins(office)
    found = []
    for crowd in inside:
        for comer in set(range(office.book.people)) - set(crowd):
            for person in plain.left(crowd, inside[crowd]):
                if person in inside[plain.joined(crowd, (comer,))]:
                    found.append((crowd, comer, person))
    return found


def lasts_in(office):
    """All pairs of a crowd and the number of a lot within it whose last is let in."""
    inside = plain.ins(office)
    return [(crowd, k) for crowd in inside for k, lot in enumerate(office.book.lots)
            if plain.within(lot, crowd) and plain.last(office.order, lot) in inside[crowd]]


def below(office):
    """All crowds of which others are left from below than are let in."""
    inside = plain.ins(office)
    return [crowd for crowd in inside if plain.from_below(office.book.lots, office.order, crowd) != inside[crowd]]


def offices():
    return plain.some_offices(6, 21) + [Office(plain.random_book(random.Random(k), 5, 6), (4, 1, 3, 0, 2))
                                        for k in range(12)]


class SteadyTest(Checks, unittest.TestCase):
    def test_both_sorts_are_tried(self):
        flags = [plain.is_steady(office) for office in offices()]
        self.assertGreater(flags.count(True), 10)
        self.assertGreater(flags.count(False), 10)

    def test_six_words(self):
        for office in offices():
            wanted = plain.is_steady(office)
            told = (office.book.lots, office.order)
            self.same_flag(wanted, steady(office), told)
            for call in (clash, recall, last_in, below_unlike):
                self.assertEqual(call(office) is None, wanted, told)
            self.assertEqual(thirds(office) is not None, wanted, told)

    def test_clash_pairs(self):
        for office in offices():
            pairs = plain_pairs(office)
            self.assertEqual(clash_pairs(office), pairs)
            bare = []
            for pair in pairs:
                right = plain_thirds(office, pair)
                self.assertEqual(third_of(office, pair), right[0] if right else None)
                if not right:
                    bare.append(pair)
            self.assertEqual(clash(office), bare[0] if bare else None)
            if not bare:
                self.right_thirds(office, thirds(office))

    def right_thirds(self, office, found):
        self.assertIsInstance(found, dict)
        self.assertEqual(sorted(found), plain_pairs(office))
        for pair in found:
            self.assertIn(found[pair], plain_thirds(office, pair))
        self.accepts(is_thirds, office, found)

    def test_third_lots(self):
        # The lot of the pair (0, 1) itself is no third one: it has the last of the lot 0.
        self.assertEqual(clash_pairs(ROW), [(0, 1)])
        self.assertIsNone(third_of(ROW, (0, 1)))
        self.assertEqual(clash_pairs(ROUND), [(0, 2)])
        self.assertEqual(third_of(ROUND, (0, 2)), 1)
        self.assertEqual(thirds(ROUND), {(0, 2): 1})
        self.assertEqual(thirds(FREE), {})
        self.assertIsNone(thirds(ROW))

    def test_no_pair(self):
        wrong = [[0, 1], (1, 0), (0, 0), (1, 1), (0, 2), (0, -1), (-2, 1), (False, 1), (0, True), (0,), (0, 1, 1), (),
                 ("0", "1"), (0, None), 0, {0: 1}]
        for thing in wrong + strange():
            self.raises(NoPair, third_of, ROW, thing)
            self.raises(NoPair, third_of, FREE, thing)

    def test_not_clash_pairs(self):
        for office in offices()[::4]:
            many = len(office.book.lots) + 1
            for pair in [(i, j) for i in range(-1, many) for j in range(-1, many)]:
                if pair not in plain_pairs(office):
                    self.raises(NoPair, third_of, office, pair)

    def test_is_thirds(self):
        for office in offices():
            pairs = plain_pairs(office)
            choices = {pair: plain_thirds(office, pair) for pair in pairs}
            if all(choices.values()):
                for right in ({pair: choices[pair][0] for pair in pairs}, {pair: choices[pair][-1] for pair in pairs}):
                    self.accepts(is_thirds, office, right)
                    self.refuses(is_thirds, office, things=wrong_thirds(office, right))
            else:
                self.refuses(is_thirds, office, things=[{}, {pair: (choices[pair] + [0])[0] for pair in pairs}])

    def test_is_thirds_wrong_things(self):
        self.refuses(is_thirds, ROUND, things=strange() + [
            {}, {(0, 2): 0}, {(0, 2): 2}, {(0, 2): 3}, {(0, 2): -2}, {(0, 2): None}, {(0, 2): "1"}, {(0, 2): (1,)},
            {(0, 2): [1]}, {(2, 0): 1}, {(0, 2): 1, (0, 1): 1}, {(0, 2): 1, None: 1}, [((0, 2), 1)], {0: 1}, [[0, 2]],
            {(0, 2): ROUND}, {(0, 1): 1}])
        self.refuses(is_thirds, FREE, things=[thing for thing in strange() if thing != {}])
        self.accepts(is_thirds, FREE, {})
        self.accepts(is_thirds, ROUND, {(0, 2): 1})
        self.same_flag(False, is_thirds(ROUND, {(0, 2): True}))

    def test_arguments_stay(self):
        self.leaves(is_thirds, ROUND, {(0, 2): 1})
        self.leaves(is_recall, ROW, [(1, 2), 0, 2])

    def test_new(self):
        self.is_new(clash_pairs, ROUND)
        self.is_new(thirds, ROUND)


def wrong_thirds(office, right):
    """Dicts that are right but for one pair, or lack one or have one too many."""
    found = [{**right, (0, 99): 0}, {**right, (-1, 0): 0}]
    for pair in right:
        found.append({key: right[key] for key in right if key != pair})
        found.append({**{key: right[key] for key in right if key != pair}, (pair[1], pair[0], 0): 0})
        for k in range(-1, len(office.book.lots) + 1):
            if k not in plain_thirds(office, pair):
                found.append({**right, pair: k})
    return found


class WitnessTest(Checks, unittest.TestCase):
    def right_one(self, right, found, judge, office):
        self.assertEqual(found is None, not right)
        if right:
            self.assertIn(found, right)
            self.accepts(judge, office, found)

    def test_recall(self):
        for office in offices():
            right = recalls(office)
            self.right_one(right, recall(office), is_recall, office)
            people = range(office.book.people)
            for crowd in plain.crowds(office.book.people):
                for comer in people:
                    for person in people:
                        thing = (crowd, comer, person)
                        self.same_flag(thing in right, is_recall(office, thing), thing)

    def test_last_in(self):
        for office in offices():
            right = lasts_in(office)
            self.right_one(right, last_in(office), is_last_in, office)
            for crowd in plain.crowds(office.book.people):
                for k in range(len(office.book.lots)):
                    self.same_flag((crowd, k) in right, is_last_in(office, (crowd, k)), crowd, k)

    def test_below_unlike(self):
        for office in offices():
            right = below(office)
            self.right_one(right, below_unlike(office), is_below_unlike, office)
            for crowd in plain.crowds(office.book.people):
                self.same_flag(crowd in right, is_below_unlike(office, crowd), crowd)

    def test_wrong_recalls(self):
        self.accepts(is_recall, ROW, ((1, 2), 0, 2))
        wrong = [[(1, 2), 0, 2], ([1, 2], 0, 2), ((1, 2), False, 2), ((1, 2), 0, 2.0 > 1), ((1, 2), 0), ((1, 2), 0, 2, 0),
                 ((1, 2), 0, 1), ((0, 1, 2), 0, 2), ((2, 1), 0, 2), ((True, 2), 0, 2), ((1, 2), 0, "2"), ((1, 2), "0", 2),
                 ((1, 2), 3, 2), ((1, 2), 0, 3), ((1, 2), -3, 2), ((1, 2), 0, -1), (None, 0, 2), ((1, 2), None, None),
                 ((1, 2, 3), 0, 2), ((1, 2), 0, 0), ((1, 2), (0,), 2), ((1, 2), 0, (2,))]
        self.refuses(is_recall, ROW, things=wrong + strange())
        office = Office(Book(3, ((0, 2), (1, 2))), (0, 2, 1))
        self.accepts(is_recall, office, ((1, 2), 0, 1))
        self.refuses(is_recall, office, things=[((1, 2), 0, True), ((1, 2), False, 1), ((True, 2), 0, 1)])

    def test_wrong_lasts_in(self):
        self.accepts(is_last_in, ROW, ((0, 1, 2), 1))
        wrong = [[(0, 1, 2), 1], ([0, 1, 2], 1), ((0, 1, 2), True), ((0, 1, 2), 0), ((0, 1, 2), -1), ((0, 1, 2), 2),
                 ((0, 1, 2),), ((0, 1, 2), 1, 1), ((0, 2), 1), ((2, 1, 0), 1), ((0, True, 2), 1), ((0, 1, 2), "1"),
                 ((0, 1, 2), (1, 2)), ((0, 1, 2), None), (None, 1), ((1, 2), 1), ((), 1), ((0, 1, 2, 3), 1)]
        self.refuses(is_last_in, ROW, things=wrong + strange())

    def test_wrong_below_unlike(self):
        self.accepts(is_below_unlike, ROW, (0, 1, 2))
        wrong = [[0, 1, 2], (0, True, 2), (2, 1, 0), (0, 1, 2, 3), (0, 1), ("0", "1", "2"), (0, 1, 1, 2), (0, 1, None)]
        self.refuses(is_below_unlike, ROW, things=wrong + strange())


class GreatTest(Checks, unittest.TestCase):
    def great(self):
        rand = random.Random(14)
        found = plain.great_offices()
        for book in plain.great_books():
            found.append(Office(book, tuple(rand.sample(range(book.people), book.people))))
        pairs = tuple(combinations(range(11), 2))
        found.append(Office(Book(11, pairs), tuple(rand.sample(range(11), 11))))
        found.append(Office(Book(12, ((0, 1), (2, 3), (4, 5, 6), (7, 8, 9, 10, 11))), tuple(range(12))))
        found.append(Office(Book(12, ()), tuple(range(12))))
        return found

    def test_six_words(self):
        flags = []
        for office in self.great():
            wanted = all(plain_thirds(office, pair) for pair in plain_pairs(office))
            flags.append(wanted)
            self.same_flag(wanted, steady(office))
            self.assertEqual(clash_pairs(office), plain_pairs(office))
            for call, judge in ((recall, is_recall), (last_in, is_last_in), (below_unlike, is_below_unlike)):
                found = call(office)
                self.assertEqual(found is None, wanted)
                if found is not None:
                    self.accepts(judge, office, found)
            self.one_by_one(office, wanted)
        self.assertIn(True, flags)
        self.assertIn(False, flags)

    def one_by_one(self, office, wanted):
        found = thirds(office)
        least = clash(office)
        self.assertEqual(found is not None, wanted)
        self.assertEqual(least is None, wanted)
        if wanted:
            self.accepts(is_thirds, office, found)
        else:
            self.assertIsNone(third_of(office, least))
            bare = [pair for pair in plain_pairs(office) if not plain_thirds(office, pair)]
            self.assertEqual(least, bare[0])

    def test_witnesses(self):
        for office in self.great():
            self.right_witnesses(office.book.lots, office.order, office)

    def right_witnesses(self, lots, order, office):
        found = recall(office)
        if found is not None:
            crowd, comer, person = found
            self.assertNotIn(comer, crowd)
            self.assertIn(person, plain.left(crowd, plain.let_in(lots, order, crowd)))
            self.assertIn(person, plain.let_in(lots, order, plain.joined(crowd, (comer,))))
        found = last_in(office)
        if found is not None:
            crowd, number = found
            self.assertTrue(plain.within(lots[number], crowd))
            self.assertIn(plain.last(order, lots[number]), plain.let_in(lots, order, crowd))
        crowd = below_unlike(office)
        if crowd is not None:
            self.assertNotEqual(plain.from_below(lots, order, crowd), plain.let_in(lots, order, crowd))

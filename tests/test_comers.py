"""One more, one less (9.1 to 9.3)."""

import random
import unittest
from itertools import combinations

from lastoflot.books import Book
from lastoflot.comers import (
    comer, is_two_for_one, leaver, lots_for_two, most_touched, one_for_one, touching, two_for_one)
from lastoflot.errors import NoCrowd, NoPerson, NotSteady, TooMany
from lastoflot.offices import Office
from tests import plain
from tests.plain import Checks, strange

ROW = Office(Book(3, ((0, 1), (1, 2))), (0, 1, 2))
FORK = Office(Book(3, ((0, 1), (0, 2))), (0, 1, 2))
ELEVEN = Office(Book(11, ((0, 1), (1, 2))), tuple(range(11)))


def plain_comer(inside, crowd, person):
    before, behind = inside[crowd], inside[plain.joined(crowd, (person,))]
    return (tuple(one for one in crowd if one in behind and one not in before),
            tuple(one for one in crowd if one in before and one not in behind))


def plain_leaver(inside, crowd, person):
    rest = plain.left(crowd, (person,))
    before, behind = inside[crowd], inside[rest]
    return (tuple(one for one in rest if one in behind and one not in before),
            tuple(one for one in rest if one in before and one not in behind))


def plain_touched(office):
    """The dict from all pairs of a crowd and a person not of it to how many are touched, fewest first."""
    inside = plain.ins(office)
    return {(crowd, person): sum(map(len, plain_comer(inside, crowd, person)))
            for crowd in inside for person in range(office.book.people) if person not in crowd}


def plain_two_for_one(office):
    """All pairs of a crowd and a person of it behind whose leaving two or more come in."""
    inside = plain.ins(office)
    return [(crowd, person) for crowd in inside for person in crowd if len(plain_leaver(inside, crowd, person)[0]) >= 2]


def plain_lots_for_two(office):
    lots, order = office.book.lots, office.order
    for i, j in combinations(range(len(lots)), 2):
        pair = {plain.last(order, lots[i]), plain.last(order, lots[j])}
        for person in sorted(set(lots[i]) & set(lots[j]) - pair):
            rest = (set(lots[i]) | set(lots[j])) - {person}
            if len(pair) == 2 and not any(set(lot) <= rest and plain.last(order, lot) in pair for lot in lots):
                return (i, j, person)
    return None


def steady_offices():
    """Steady offices of up to six people, some with two for one and some without."""
    rand = random.Random(111)
    found = [office for office in plain.some_offices(8, 112) if plain.is_steady(office)]
    for many in (2, 3, 3, 4, 4, 5, 6, 8):
        for _ in range(8):
            book = plain.random_book(rand, 6, many)
            office = Office(book, tuple(rand.sample(range(6), 6)))
            if plain.is_steady(office):
                found.append(office)
    return found


class ComerTest(Checks, unittest.TestCase):
    def test_going_through(self):
        touched = 0
        for office in plain.some_offices(5, 113):
            inside = plain.ins(office)
            for crowd in inside:
                for person in range(office.book.people):
                    told = (office.book.lots, office.order, crowd, person)
                    call, other, wanted = comer, leaver, plain_comer
                    if person in crowd:
                        call, other, wanted = leaver, comer, plain_leaver
                    found = call(office, crowd, person)
                    self.assertIsInstance(found, tuple)
                    self.assertEqual(found, wanted(inside, crowd, person), told)
                    self.raises(NoPerson, other, office, crowd, person)
                    touched = max(touched, len(found[0]) + len(found[1]))
        self.assertGreaterEqual(touched, 3)

    def test_named(self):
        self.assertEqual(comer(ROW, (1, 2), 0), ((2,), (1,)))
        self.assertEqual(leaver(ROW, (0, 1, 2), 0), ((1,), (2,)))
        self.assertEqual(comer(ROW, (1,), 0), ((), (1,)))
        self.assertEqual(leaver(ROW, (0, 1), 0), ((1,), ()))
        self.assertEqual(leaver(ROW, (0, 1), 1), ((), ()))
        self.assertEqual(comer(ROW, (), 1), ((), ()))
        self.assertEqual(leaver(ROW, (2,), 2), ((), ()))
        self.assertEqual(leaver(FORK, (0, 1, 2), 0), ((1, 2), ()))

    def test_nobody_ahead(self):
        for office in plain.some_offices(3, 114):
            for crowd in plain.crowds(office.book.people):
                for person in set(range(office.book.people)) - set(crowd):
                    came, went = comer(office, crowd, person)
                    ahead = office.order[:office.order.index(person)]
                    self.assertEqual(set(came + went) & set(ahead), set())

    def test_great(self):
        rand = random.Random(115)
        for office in plain.great_offices():
            lots, order = office.book.lots, office.order
            for _ in range(40):
                crowd = plain.random_crowd(rand, office.book.people)
                person = rand.randrange(office.book.people)
                near = [crowd, plain.joined(crowd, (person,)), plain.left(crowd, (person,))]
                inside = {one: plain.let_in(lots, order, one) for one in near}
                if person in crowd:
                    self.assertEqual(leaver(office, crowd, person), plain_leaver(inside, crowd, person))
                else:
                    self.assertEqual(comer(office, crowd, person), plain_comer(inside, crowd, person))

    def test_no_crowd(self):
        for wrong in plain.bad_crowds(3):
            for person in (0, None, 7):
                self.raises(NoCrowd, comer, ROW, wrong, person)
                self.raises(NoCrowd, leaver, ROW, wrong, person)

    def test_no_person(self):
        for wrong in plain.bad_persons(3) + [3, -1, -3, True, False, (0,), "0"]:
            for crowd in ((), (1,), (0, 1), (0, 1, 2)):
                self.raises(NoPerson, comer, ROW, crowd, wrong)
                self.raises(NoPerson, leaver, ROW, crowd, wrong)
        self.raises(NoPerson, comer, ROW, (0, 1), 1)
        self.raises(NoPerson, leaver, ROW, (0, 1), 2)
        self.raises(NoPerson, leaver, ROW, (), 0)
        self.raises(NoPerson, comer, ROW, (0, 1, 2), 0)


class TouchedTest(Checks, unittest.TestCase):
    def told(self, office):
        counts = plain_touched(office)
        most = max(counts.values())
        self.assertEqual(most_touched(office), most, (office.book.lots, office.order))
        wanted = next(pair for pair in counts if counts[pair] == most)
        self.assertEqual(touching(office), wanted, (office.book.lots, office.order))
        return most

    def test_going_through(self):
        found = [self.told(office) for office in plain.some_offices(6, 116)]
        self.assertGreaterEqual(max(found), 3)
        self.assertIn(0, found)

    def test_least(self):
        self.assertEqual((most_touched(ROW), touching(ROW)), (2, ((1, 2), 0)))
        self.assertEqual((most_touched(FORK), touching(FORK)), (2, ((1, 2), 0)))
        free = Office(Book(10, ()), tuple(range(10)))
        self.assertEqual((most_touched(free), touching(free)), (0, ((), 0)))
        self.assertEqual(touching(Office(Book(1, ()), (0,))), ((), 0))
        both = Office(Book(3, ((0, 2), (1, 2))), (0, 1, 2))
        self.assertEqual((most_touched(both), touching(both)), (1, ((2,), 0)))

    def test_ten(self):
        self.told(Office(Book(10, ((0, 1), (1, 2), (1, 3), (4, 5, 6), (6, 7), (7, 8, 9))), tuple(range(10))))
        book = plain.random_book(random.Random(117), 10, 9)
        self.told(Office(book, (3, 7, 1, 9, 0, 5, 2, 8, 4, 6)))

    def test_too_many(self):
        for office in (ELEVEN, Office(Book(12, ()), tuple(range(12)))):
            self.raises(TooMany, most_touched, office, most=10)
            self.raises(TooMany, touching, office, most=10)


class TwoForOneTest(Checks, unittest.TestCase):
    def told(self, office):
        right = plain_two_for_one(office)
        wanted = plain_lots_for_two(office)
        told = (office.book.lots, office.order)
        self.assertEqual(lots_for_two(office), wanted, told)
        self.same_flag(not right, one_for_one(office), told)
        self.assertEqual(wanted is None, not right, told)
        found = two_for_one(office)
        self.assertEqual(found is None, not right, told)
        if right:
            self.assertIn(found, right)
            self.accepts(is_two_for_one, office, found)
        return right

    def test_going_through(self):
        flags = []
        for office in steady_offices():
            right = set(self.told(office))
            flags.append(right == set())
            for crowd in plain.crowds(office.book.people):
                for person in range(office.book.people):
                    thing = (crowd, person)
                    self.same_flag(thing in right, is_two_for_one(office, thing), office.book.lots, thing)
        self.assertGreater(flags.count(True), 10)
        self.assertGreater(flags.count(False), 10)

    def test_named(self):
        self.assertEqual(lots_for_two(FORK), (0, 1, 0))
        self.assertIs(one_for_one(FORK), False)
        self.accepts(is_two_for_one, FORK, ((0, 1, 2), 0))
        free = Office(Book(3, ()), (1, 0, 2))
        self.assertEqual((one_for_one(free), two_for_one(free), lots_for_two(free)), (True, None, None))
        # Both lots have one last: no two come in.
        same = Office(Book(3, ((0, 2), (1, 2))), (0, 1, 2))
        self.assertEqual((one_for_one(same), lots_for_two(same)), (True, None))
        whole = Office(Book(3, ((0, 1), (0, 2), (1, 2))), (0, 1, 2))
        self.assertEqual((one_for_one(whole), lots_for_two(whole)), (True, None))
        wide = Office(Book(5, ((0, 1, 3), (0, 1, 4), (0, 2, 3))), (0, 1, 2, 3, 4))
        self.assertEqual((lots_for_two(wide), one_for_one(wide)), ((0, 1, 0), False))

    def test_lots_with_other_lasts(self):
        # A lot within the persons of both but for one is no matter if its last is another one.
        for lots, order, wanted in (
                (((0, 1, 2, 3), (0, 2, 4), (1, 4), (2, 3, 4)), (4, 1, 2, 3, 0), (0, 3, 2)),
                (((0, 1, 2, 4), (0, 3, 4), (1, 3, 4), (2, 3)), (4, 3, 1, 2, 0), (0, 2, 4)),
                (((0, 3, 4), (1, 2, 3, 5), (1, 3, 4), (4, 5)), (2, 4, 3, 0, 5, 1), (0, 1, 3))):
            office = Office(Book(len(order), lots), order)
            self.told(office)
            self.assertEqual(lots_for_two(office), wanted)

    def test_twelve(self):
        twelve = tuple(range(12))
        pairs = Office(Book(11, tuple(combinations(range(11), 2))), tuple(range(11)))
        apart = Office(Book(12, tuple((2 * k, 2 * k + 1) for k in range(6))), twelve)
        long = Office(Book(12, ((0, 1, 2, 3), (4, 5, 6, 7, 8, 9, 10, 11))), twelve[::-1])
        for office in (pairs, apart, long, Office(Book(12, ()), twelve)):
            self.accepts(one_for_one, office)
            self.assertIsNone(two_for_one(office))
            self.assertIsNone(lots_for_two(office))
            self.refuses(is_two_for_one, office, things=[((0, 1, 2), 0), ((), 0), (tuple(range(11)), 3)])
        star = Office(Book(12, tuple((0, k) for k in range(1, 12))), twelve)
        self.assertEqual(lots_for_two(star), (0, 1, 0))
        self.accepts(is_two_for_one, star, two_for_one(star))
        self.accepts(is_two_for_one, star, (twelve, 0))
        self.refuses(is_two_for_one, star, things=[((0, 1), 0), (twelve, 1), (twelve[1:], 0)])

    def test_twelve_going_through(self):
        lots = ((0, 1), (2, 3, 4), (2, 3, 5), (6, 7, 8), (6, 9, 10, 11))
        self.assertNotEqual(self.told(Office(Book(12, lots), tuple(range(12)))), [])
        lots = ((0, 1, 10), (2, 3, 4, 10), (2, 5), (3, 5), (6, 7, 9), (8, 9))
        self.assertEqual(self.told(Office(Book(11, lots), tuple(range(11)))), [])

    def test_not_steady(self):
        offices = [office for office in plain.some_offices(6, 118) if not plain.is_steady(office)] + [ROW, ELEVEN]
        self.assertGreater(len(offices), 10)
        for office in offices:
            self.raises(NotSteady, one_for_one, office)
            self.raises(NotSteady, two_for_one, office)
            self.raises(NotSteady, lots_for_two, office)
            for thing in (((0, 1, 2), 0), None, ()):
                self.raises(NotSteady, is_two_for_one, office, thing)

    def test_wrong_things(self):
        self.accepts(is_two_for_one, FORK, ((0, 1, 2), 0))
        wrong = [
            [(0, 1, 2), 0], ([0, 1, 2], 0), ((0, 1, 2), False), ((0, 1, 2), 1), ((0, 1, 2), 3), ((0, 1, 2), -3),
            ((0, 1, 2), "0"), ((0, 1, 2), (0,)), ((0, 1, 2), None), ((0, 1, 2),), ((0, 1, 2), 0, 0), ((2, 1, 0), 0),
            ((False, 1, 2), 0), ((0, True, 2), 0), ((0, 1, 2, 3), 0), ((0, 1), 0), ((1, 2), 0), ((), 0), (None, 0),
            (0, (0, 1, 2)), ((0, 1, 1, 2), 0), ("012", 0), ((0, 1, 2), 10 ** 59), {0: (0, 1, 2)},
        ]
        self.refuses(is_two_for_one, FORK, things=wrong + strange())
        turned = Office(Book(3, ((0, 1), (1, 2))), (1, 0, 2))
        self.accepts(is_two_for_one, turned, ((0, 1, 2), 1))
        self.refuses(is_two_for_one, turned, things=[((0, 1, 2), True), ((0, True, 2), 1), ((0, 1, 2), 0)])

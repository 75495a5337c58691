"""Turns (11.1 to 11.3)."""

import random
import unittest
from itertools import combinations

from lastoflot.books import Book
from lastoflot.errors import NoCrowd, NoCrowds, NoPerson
from lastoflot.offices import Office
from lastoflot.turns import after, days, flower, flower_ahead, is_flower, is_out_through, longest_out, next_day
from tests import plain
from tests.plain import Checks, strange

PAIRS = Book(3, ((0, 1), (1, 2)))
ROW = Office(PAIRS, (0, 1, 2))
STAR = Book(12, tuple((0, k) for k in range(1, 12)))
TWELVE = tuple(range(12))


def turned(lots, order, crowd):
    """The list of the next day."""
    inside = plain.let_in(lots, order, crowd)
    return sorted(order, key=lambda person: (person in inside, order.index(person)))


def going_through(office, crowds):
    """The pair of those let in on each day, and the list behind them."""
    order = list(office.order)
    found = []
    for crowd in crowds:
        found.append(plain.let_in(office.book.lots, order, crowd))
        order = turned(office.book.lots, order, crowd)
    return found, tuple(order)


def is_plain_out_through(office, person, crowds):
    found, _ = going_through(office, crowds)
    return all(person in crowd and person not in inside for crowd, inside in zip(crowds, found))


def plain_flowers(lots, person):
    """All flowers of a person, by going through all choices of lots."""
    own = [lot for lot in lots if person in lot]
    found = [()]
    for lot in own:
        found += [chosen + (lot,) for chosen in found if all(set(one) & set(lot) == {person} for one in chosen)]
    return found


def plain_flower(lots, person):
    found = plain_flowers(lots, person)
    most = max(map(len, found))
    return min(chosen for chosen in found if len(chosen) == most)


def plain_flower_ahead(office, person):
    lots = [lot for lot in office.book.lots if plain.last(office.order, lot) == person]
    return plain_flower(lots, person)


def some_crowds(rand, people, many):
    return [plain.random_crowd(rand, people) for _ in range(many)]


class DaysTest(Checks, unittest.TestCase):
    def test_next_day(self):
        for office in plain.some_offices(5, 131):
            for crowd in plain.crowds(office.book.people):
                found = next_day(office, crowd)
                self.assertIsInstance(found, Office)
                wanted = tuple(turned(office.book.lots, office.order, crowd))
                self.assertEqual((found.book, found.order), (office.book, wanted), (office.order, crowd))

    def test_named(self):
        self.assertEqual(next_day(ROW, (0, 1)).order, (1, 2, 0))
        self.assertEqual(next_day(ROW, (0, 1, 2)).order, (1, 0, 2))
        self.assertEqual(next_day(ROW, (1, 2)).order, (0, 2, 1))
        self.assertEqual(next_day(ROW, ()), ROW)
        self.assertEqual(next_day(Office(PAIRS, (2, 0, 1)), (0, 1, 2)).order, (1, 2, 0))
        self.assertEqual(ROW.order, (0, 1, 2))
        self.assertEqual(days(ROW, [(0, 1), (0, 1)]), [(0,), (1,)])
        self.assertEqual(after(ROW, [(0, 1), (0, 1)]).order, (2, 0, 1))

    def test_days(self):
        rand = random.Random(132)
        for office in plain.some_offices(3, 133) + plain.great_offices():
            for many in (0, 1, 2, 5, 20):
                crowds = some_crowds(rand, office.book.people, many)
                wanted, order = going_through(office, crowds)
                for things in (crowds, tuple(crowds)):
                    self.assertEqual(self.leaves(days, office, things), wanted)
                    self.assertEqual(self.leaves(after, office, things), Office(office.book, order))

    def test_none(self):
        for crowds in ([], ()):
            self.assertEqual(days(ROW, crowds), [])
            self.assertEqual(after(ROW, crowds), ROW)
            self.assertIsInstance(days(ROW, crowds), list)

    def test_sixty(self):
        rand = random.Random(134)
        for office in (ROW, plain.great_offices()[1]):
            crowds = some_crowds(rand, office.book.people, 60)
            wanted, order = going_through(office, crowds)
            self.assertEqual(len(days(office, crowds)), 60)
            for things in (crowds, tuple(crowds)):
                self.assertEqual(days(office, things), wanted)
                self.assertEqual(after(office, things).order, order)
            for things in (crowds + [()], tuple(crowds) + ((0,),), crowds + [None]):
                self.raises(NoCrowds, days, office, things)
                self.raises(NoCrowds, after, office, things)

    def test_no_crowd(self):
        for wrong in plain.bad_crowds(3):
            self.raises(NoCrowd, next_day, ROW, wrong)

    def test_no_crowds(self):
        for wrong in strange():
            if not plain.is_plain_crowds(3, wrong):
                self.raises(NoCrowds, days, ROW, wrong)
                self.raises(NoCrowds, after, ROW, wrong)
        for wrong in plain.bad_crowds(3):
            for things in ([wrong], (wrong,), [(0, 1), wrong], ((0, 1), wrong), [wrong, (0, 1)]):
                self.raises(NoCrowds, days, ROW, things)
                self.raises(NoCrowds, after, ROW, things)
        for wrong in ({(0, 1): 0}, iter([(0, 1)]), (0, 1), "01", {}, {0: (0, 1)}):
            self.raises(NoCrowds, days, ROW, wrong)
            self.raises(NoCrowds, after, ROW, wrong)

    def test_new(self):
        self.is_new(days, ROW, [(0, 1), (1, 2)])


class FlowerTest(Checks, unittest.TestCase):
    def test_going_through(self):
        sizes = []
        for book in plain.fair_books():
            for person in range(book.people):
                wanted = plain_flower(book.lots, person)
                self.assertEqual(flower(book, person), wanted, (book.lots, person))
                sizes.append(len(wanted))
        self.assertLessEqual({0, 1, 2, 3}, set(sizes))

    def test_is_flower_going_through(self):
        for book in plain.fair_books():
            for person in range(book.people):
                right = set(plain_flowers(book.lots, person))
                for size in range(min(4, len(book.lots)) + 1):
                    for chosen in combinations(book.lots, size):
                        self.same_flag(chosen in right, is_flower(book, person, chosen), book.lots, person, chosen)
                self.accepts(is_flower, book, person, ())

    def test_ahead(self):
        for office in plain.some_offices(6, 135):
            for person in range(office.book.people):
                wanted = plain_flower_ahead(office, person)
                told = (office.book.lots, office.order, person)
                self.assertEqual(flower_ahead(office, person), wanted, told)
                self.accepts(is_flower, office.book, person, wanted)

    def test_named(self):
        self.assertEqual(flower(PAIRS, 1), ((0, 1), (1, 2)))
        self.assertEqual([flower_ahead(ROW, person) for person in range(3)], [(), ((0, 1),), ((1, 2),)])
        self.assertEqual(flower(Book(3, ((0, 1),)), 2), ())
        self.assertEqual(flower(Book(1, ()), 0), ())
        self.assertEqual(flower(STAR, 0), STAR.lots)
        self.assertEqual(flower(STAR, 7), ((0, 7),))
        self.assertEqual(flower_ahead(Office(STAR, TWELVE), 0), ())
        self.assertEqual(flower_ahead(Office(STAR, TWELVE[::-1]), 0), STAR.lots)
        self.assertEqual(flower_ahead(Office(STAR, (1, 4, 9, 0, 2, 3, 5, 6, 7, 8, 10, 11)), 0), ((0, 1), (0, 4), (0, 9)))

    def test_the_first_lot_may_be_left_out(self):
        # The least lot of all stands in no flower of two.
        book = Book(6, ((0, 1, 2), (0, 1, 3), (0, 2, 4), (1, 2, 5)))
        self.assertEqual(flower(book, 0), ((0, 1, 3), (0, 2, 4)))
        book = Book(8, ((0, 1, 2, 3), (0, 1, 4), (0, 2, 5), (0, 3, 6), (0, 4, 7)))
        self.assertEqual(flower(book, 0), ((0, 1, 4), (0, 2, 5), (0, 3, 6)))

    def test_sixty_lots(self):
        rand = random.Random(136)
        for size in (2, 3, 4):
            every = [(0, *rest) for rest in combinations(range(1, 12), size)]
            book = Book(12, tuple(sorted(rand.sample(every, min(60, len(every) - 1)))))
            wanted = plain_flower(book.lots, 0)
            self.assertEqual(flower(book, 0), wanted)
            self.assertEqual(len(wanted), {2: 5, 3: 3, 4: 2}[size])
            for k in range(3):
                order = tuple(rand.sample(range(12), 12))
                office = Office(book, order)
                for person in (0, *order[-2:]):
                    self.assertEqual(flower_ahead(office, person), plain_flower_ahead(office, person))
        for book in plain.great_books():
            for person in range(book.people):
                self.assertEqual(flower(book, person), plain_flower(book.lots, person))

    def test_wrong_flowers(self):
        book = Book(5, ((0, 1), (0, 2, 3), (0, 2, 4), (0, 3, 4), (1, 2)))
        for right in ((), ((0, 1),), ((0, 2, 3),), ((0, 1), (0, 2, 4)), ((0, 1), (0, 3, 4))):
            self.accepts(is_flower, book, 0, right)
        wrong = [
            [], [(0, 1)], ((0, 1), (0, 1)), ((0, 2, 3), (0, 1)), ((0, 2, 3), (0, 2, 4)), ((0, 1), (0, 2, 3), (0, 2, 4)),
            ((1, 2),), ((0, 1), (1, 2)), ([0, 1],), ((0, True),), ((False, 1),), ((1, 0),), ((0, 2),), ((0, 1, 2),), ((0,),),
            ((),), (0, 1), ((0, 1), None), (None,), ((0, 1), [0, 2, 3]), ((0, 5),), ((0, 3),), ((0, 1), (0, 2, True)),
            ((0, 1), (0, 3, 2)), {(0, 1): 0}, "", (("0", "1"),), ((0, 1), ()), ((0, 1, 1),), (((0, 1),),), ((-1, 0),), 0, None,
        ]
        self.refuses(is_flower, book, 0, things=wrong + strange())
        self.refuses(is_flower, book, 1, things=[((0, 1), (1, 2), (1, 2)), ((1, 2), (0, 1)), ((0, 2, 3),), [(0, 1)]])
        self.accepts(is_flower, book, 1, ((0, 1), (1, 2)))
        self.accepts(is_flower, STAR, 0, STAR.lots)
        self.accepts(is_flower, STAR, 0, STAR.lots[2:5])
        self.refuses(is_flower, STAR, 0, things=[STAR.lots[::-1], STAR.lots * 2, list(STAR.lots), STAR.lots[1:3] * 9000])

    def test_no_person(self):
        for wrong in plain.bad_persons(3):
            self.raises(NoPerson, flower, PAIRS, wrong)
            self.raises(NoPerson, flower_ahead, ROW, wrong)
            for thing in ((), None, ((0, 1),)):
                self.raises(NoPerson, is_flower, PAIRS, wrong, thing)


class OutTest(Checks, unittest.TestCase):
    def told(self, office, person):
        found = longest_out(office, person)
        told = (office.book.lots, office.order, person, found)
        self.assertIsInstance(found, tuple)
        self.assertTrue(all(plain.is_plain_crowd(office.book.people, crowd) for crowd in found), told)
        self.assertTrue(is_plain_out_through(office, person, found), told)
        self.assertEqual(len(found), len(plain_flower_ahead(office, person)), told)
        self.accepts(is_out_through, office, person, found)
        return len(found)

    def test_going_through(self):
        for office in plain.some_offices(6, 137) + plain.great_offices():
            for person in range(office.book.people):
                most = len(plain_flower(office.book.lots, person))
                self.assertLessEqual(self.told(office, person), most)

    def test_as_many_as_can_be(self):
        for office in plain.some_offices(2, 138):
            if office.book.people <= 4:
                every = plain.crowds(office.book.people)
                for person in range(office.book.people):
                    rows, days_out = [()], 0
                    while rows and days_out < 6:
                        rows = [row + (crowd,) for row in rows for crowd in every
                                if is_plain_out_through(office, person, row + (crowd,))][:400]
                        days_out += 1
                    self.assertEqual(len(longest_out(office, person)), days_out - 1)

    def test_twelve(self):
        self.assertEqual(self.told(Office(STAR, TWELVE[::-1]), 0), 11)
        self.assertEqual(self.told(Office(STAR, TWELVE), 0), 0)
        self.assertEqual(longest_out(Office(STAR, TWELVE), 0), ())
        self.assertEqual(self.told(Office(STAR, TWELVE), 5), 1)
        whole = Office(Book(12, (TWELVE,)), TWELVE)
        self.assertEqual(self.told(whole, 11), 1)

    def test_is_out_through_going_through(self):
        rand = random.Random(139)
        flags = []
        for office in plain.some_offices(4, 140) + plain.great_offices():
            people = office.book.people
            for _ in range(40):
                person = rand.randrange(people)
                crowds = tuple(some_crowds(rand, people, rand.randint(0, 3)))
                if rand.random() < 0.8:
                    crowds = tuple(plain.joined(crowd, (person,)) for crowd in crowds)
                wanted = is_plain_out_through(office, person, crowds)
                flags.append((len(crowds), wanted))
                self.same_flag(wanted, is_out_through(office, person, crowds), office.order, person, crowds)
        self.assertLessEqual({(0, True), (1, True), (2, True), (1, False), (2, False)}, set(flags))

    def test_wrong_things(self):
        office = Office(Book(4, ((0, 3), (1, 3), (2, 3))), (0, 1, 2, 3))
        for right in ((), ((0, 3),), ((0, 3), (1, 3), (2, 3)), ((0, 1, 3), (2, 3)), ((2, 3), (0, 1, 3))):
            self.accepts(is_out_through, office, 3, right)
        wrong = [
            [], [(0, 3)], ([0, 3],), ((0, 3), [1, 3]), ((0, 3), (0, 3)), ((3,),), ((0,),), ((),), ((0, 1),), ((0, 3), (1,)),
            ((3, 0),), ((False, 3),), ((True, 3),), ((0, 3, 4),), ((0, 3), None), (0, 3), None, 0, "", {(0, 3): 0}, {},
            ((0, 1, 2, 3), (0, 3)), ((0, 3), (1, 3), (2, 3), (0, 3)), ((0, 3), (1, 3), (2, 3), ()), ((0, 0, 3),),
            ((0, "3"),), (("0", 3),), (((0, 3),),), ((0, 3), (1, 3), (2, 3)) * 5000, ((0, 3),) + ((0, 1),) * 5000,
        ]
        self.refuses(is_out_through, office, 3, things=wrong + strange())
        self.refuses(is_out_through, ROW, 1, things=[((0, True),), ((False, 1),), ((0, 1), (0, True)), [(0, 1)]])
        self.accepts(is_out_through, ROW, 1, ((0, 1),))
        for person in range(4):
            self.accepts(is_out_through, office, person, ())

    def test_no_person(self):
        for wrong in plain.bad_persons(3):
            self.raises(NoPerson, longest_out, ROW, wrong)
            for thing in ((), None, ((0, 1),)):
                self.raises(NoPerson, is_out_through, ROW, wrong, thing)

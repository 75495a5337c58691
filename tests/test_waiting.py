"""Desks and waiting places (6.1, 6.2)."""

import random
import unittest
from itertools import permutations

from lastoflot.books import Book
from lastoflot.errors import NoCrowd, NoNumber, NoPerson, NoRow, TooMany
from lastoflot.offices import Office
from lastoflot.waiting import bringers, crowded, fullest, hopeful, is_crowded, kept, places
from tests import plain
from tests.plain import Checks, strange

ROW = Office(Book(3, ((0, 1), (1, 2))), (0, 1, 2))
STAR = Office(Book(5, ((0, 1), (1, 2), (1, 3), (1, 4))), (0, 1, 2, 3, 4))
ELEVEN = Office(Book(11, ((0, 1), (1, 2))), tuple(range(11)))


def plain_hopeful(inside, crowd):
    wider = [other for other in inside if plain.within(crowd, other)]
    return tuple(person for person in plain.left(crowd, inside[crowd])
                 if any(person in inside[other] for other in wider))


def plain_bringers(inside, crowd, person):
    for other in inside:
        if not set(other) & set(crowd) and person in inside[plain.joined(other, crowd)]:
            return other
    return None


def offices():
    return plain.some_offices(5, 31) + [STAR]


class WaitingTest(Checks, unittest.TestCase):
    def test_hopeful(self):
        for office in offices():
            inside = plain.ins(office)
            for crowd in inside:
                wanted = plain_hopeful(inside, crowd)
                self.assertEqual(hopeful(office, crowd), wanted, (office.book.lots, office.order, crowd))

    def test_bringers(self):
        for office in offices():
            inside = plain.ins(office)
            for crowd in inside:
                for person in plain.left(crowd, inside[crowd]):
                    wanted = plain_bringers(inside, crowd, person)
                    told = (office.book.lots, office.order, crowd, person)
                    self.assertEqual(bringers(office, crowd, person), wanted, told)
                for person in inside[crowd]:
                    self.raises(NoPerson, bringers, office, crowd, person)

    def test_places(self):
        greatest = []
        for office in offices():
            inside = plain.ins(office)
            hopes = {crowd: len(plain_hopeful(inside, crowd)) for crowd in inside}
            most = max(hopes.values())
            greatest.append(most)
            self.assertEqual(places(office), most, (office.book.lots, office.order))
            self.assertEqual(fullest(office), next(crowd for crowd in hopes if hopes[crowd] == most))
            self.same_flag(plain.is_steady(office), places(office) == 0)
            for many in range(office.book.people + 1):
                found = crowded(office, many)
                self.assertEqual(found is None, most <= many)
                if found is not None:
                    self.assertTrue(self.right_crowded(inside, many, found))
                    self.accepts(is_crowded, office, many, found)
        self.assertGreaterEqual(max(greatest), 3)

    def right_crowded(self, inside, many, thing):
        crowd, table = thing
        return len(table) > many and all(
            person in plain.left(crowd, inside[crowd]) and not set(table[person]) & set(crowd)
            and person in inside[plain.joined(table[person], crowd)] for person in table)

    def test_is_crowded_going_through(self):
        rand = random.Random(17)
        for office in offices():
            inside = plain.ins(office)
            every = list(inside)
            for _ in range(150):
                crowd = rand.choice(every)
                persons = rand.sample(range(office.book.people), rand.randint(0, min(2, office.book.people)))
                thing = (crowd, {person: rand.choice(every) for person in persons})
                for many in (0, 1):
                    wanted = self.right_crowded(inside, many, thing)
                    self.same_flag(wanted, is_crowded(office, many, thing), office.book.lots, many, thing)

    def test_is_crowded(self):
        right = ((1, 2, 3), {2: (0,), 3: (0,)})
        self.accepts(is_crowded, STAR, 0, right)
        self.accepts(is_crowded, STAR, 1, right)
        self.same_flag(False, is_crowded(STAR, 2, right))
        self.same_flag(False, is_crowded(STAR, 10 ** 59, right))
        self.accepts(is_crowded, STAR, 0, ((1, 2, 3), {2: (0, 4)}))
        wrong = [
            [(1, 2, 3), {2: (0,)}], ([1, 2, 3], {2: (0,)}), ((1, 2, 3), [(2, (0,))]), ((1, 2, 3), {}), ((1, 2, 3),),
            ((1, 2, 3), {2: (0,)}, 0), ((1, 2, 3), {2: [0]}), ((1, 2, 3), {2: (False,)}), ((1, 2, 3), {2: ()}),
            ((1, 2, 3), {2: (0, 1)}), ((1, 2, 3), {2: (0, 2)}), ((1, 2, 3), {1: (0,)}), ((1, 2, 3), {4: (0,)}),
            ((1, 2, 3), {2: (4,)}), ((1, 2, 3), {2: (0,), 3: (4,)}), ((1, 2, 3), {2: (0,), "3": (0,)}),
            ((1, 2, 3), {2: (0,), 4: (0,)}), ((1, 2, 3), {2: (0,), 3: None}), ((1, 2, 3), {2: (0,), None: (0,)}),
            ((1, 2, 3), {(2,): (0,)}), ((3, 2, 1), {2: (0,)}), ((1, 2, 5), {2: (0,)}), ((1, 2, 3), {2: (0, 5)}),
            ((1, 2, 3), {2: (4, 0)}), (None, {2: (0,)}), ((1, 2, 3), {2: 0}), ((1, 2, 3), {2: STAR}),
            ((True, 2, 3), {2: (0,)}), ((2, 3), {2: (0,)}), ((0, 1), {1: (2,)}), ((1, 2, 3), {5: (0,)}),
            ((1, 2, 3), {-2: (0,)}), ((1, 2, 3), {10 ** 59: (0,)}), ((1, 2, 3), None),
        ]
        self.refuses(is_crowded, STAR, 0, things=wrong + strange())
        self.refuses(is_crowded, STAR, 1, things=wrong + strange())

    def test_is_crowded_of_many_people(self):
        office = Office(Book(12, ((0, 1), (1, 2))), tuple(range(12)))
        self.accepts(is_crowded, office, 0, ((1, 2), {2: (0,)}))
        self.accepts(is_crowded, office, 0, ((1, 2, 11), {2: (0, 10)}))
        self.refuses(is_crowded, office, 0, things=[((1, 2), {2: (3,)}), None])
        self.refuses(is_crowded, office, 1, things=[((1, 2), {2: (0,)})])

    def test_kept(self):
        for office in offices():
            inside = plain.ins(office)
            people = range(office.book.people)
            for size in range(min(4, office.book.people) + 1):
                for row in list(permutations(people, size))[::5]:
                    crowds = [tuple(sorted(row[:k])) for k in range(1, size + 1)]
                    wanted = [(inside[crowd], plain_hopeful(inside, crowd)) for crowd in crowds]
                    self.assertEqual(kept(office, row), wanted)
        self.assertEqual(kept(ROW, ()), [])
        self.assertEqual(kept(Office(Book(1, ()), (0,)), (0,)), [((0,), ())])

    def test_ten(self):
        book = Book(10, ((0, 1), (1, 2), (1, 3), (4, 5, 6), (6, 7), (7, 8, 9)))
        office = Office(book, (0, 1, 2, 3, 4, 5, 6, 7, 8, 9))
        inside = plain.ins(office)
        rand = random.Random(18)
        for crowd in rand.sample(list(inside), 25) + [tuple(range(10)), ()]:
            self.assertEqual(hopeful(office, crowd), plain_hopeful(inside, crowd))
            for person in plain.left(crowd, inside[crowd]):
                self.assertEqual(bringers(office, crowd, person), plain_bringers(inside, crowd, person))
        hopes = {crowd: len(plain_hopeful(inside, crowd)) for crowd in inside}
        most = max(hopes.values())
        self.assertEqual(places(office), most)
        self.assertEqual(fullest(office), next(crowd for crowd in hopes if hopes[crowd] == most))
        self.accepts(is_crowded, office, most - 1, crowded(office, most - 1))
        self.assertIsNone(crowded(office, most))
        row = tuple(rand.sample(range(10), 10))
        crowds = [tuple(sorted(row[:k])) for k in range(1, 11)]
        self.assertEqual(kept(office, row), [(inside[crowd], plain_hopeful(inside, crowd)) for crowd in crowds])

    def test_ten_free(self):
        office = Office(Book(10, ()), tuple(range(10)))
        self.assertEqual((places(office), fullest(office), crowded(office, 0)), (0, (), None))

    def test_too_many_first(self):
        for office in (ELEVEN, Office(Book(12, ()), tuple(range(12)))):
            for crowd in ((), (0, 1), None):
                self.raises(TooMany, hopeful, office, crowd, most=10)
                self.raises(TooMany, bringers, office, crowd, None, most=10)
                self.raises(TooMany, bringers, office, crowd, 1, most=10)
            self.raises(TooMany, places, office, most=10)
            self.raises(TooMany, fullest, office, most=10)
            for thing in (0, -1, None, True):
                self.raises(TooMany, crowded, office, thing, most=10)
            for thing in ((), (0, 0), None):
                self.raises(TooMany, kept, office, thing, most=10)

    def test_no_crowd(self):
        for wrong in plain.bad_crowds(3):
            self.raises(NoCrowd, hopeful, ROW, wrong)
            self.raises(NoCrowd, bringers, ROW, wrong, 1)
            self.raises(NoCrowd, bringers, ROW, wrong, None)

    def test_no_person(self):
        for wrong in plain.bad_persons(3) + [1, 2, 0]:
            if wrong is not True:
                self.raises(NoPerson, bringers, ROW, (0, 2), wrong)
        self.raises(NoPerson, bringers, ROW, (1, 2), 0)
        self.raises(NoPerson, bringers, ROW, (1, 2), 1)
        self.raises(NoPerson, bringers, ROW, (0, 1), True)
        self.assertEqual(bringers(ROW, (1, 2), 2), (0,))
        self.assertIsNone(bringers(ROW, (0, 1), 1))

    def test_no_number(self):
        for wrong in plain.bad_numbers():
            self.raises(NoNumber, crowded, ROW, wrong)
            self.raises(NoNumber, is_crowded, ROW, wrong, ((1, 2), {2: (0,)}))
            self.raises(NoNumber, is_crowded, ROW, wrong, None)
            self.raises(NoNumber, is_crowded, ELEVEN, wrong, None)
        self.assertIsNone(crowded(ROW, 10 ** 59))

    def test_no_row(self):
        wrong = [[0, 1], (0, 0), (3,), (0, 3), (-1,), (True, 0), (0, True), ("0",), (0, 1, 2, 0), (0, None)]
        for thing in wrong + strange():
            if thing != ():
                self.raises(NoRow, kept, ROW, thing)

    def test_new(self):
        self.is_new(kept, ROW, (2, 1, 0))
        self.is_new(crowded, STAR, 0)

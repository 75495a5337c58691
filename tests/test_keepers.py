"""Keepers (6.3)."""

import random
import unittest
from itertools import permutations

from lastoflot.books import Book
from lastoflot.errors import NoNumber, TooMany
from lastoflot.keepers import wrong_row
from lastoflot.offices import Office
from lastoflot.waiting import places
from tests import plain
from tests.plain import Checks, strange

ROW = Office(Book(3, ((0, 1), (1, 2))), (0, 1, 2))
STAR = Office(Book(5, ((0, 1), (1, 2), (1, 3), (1, 4))), (0, 1, 2, 3, 4))
FREE = Office(Book(3, ()), (2, 0, 1))
SIX = Office(Book(6, ()), tuple(range(6)))


def rows(people):
    """All rows but the empty one, fewest first."""
    return [row for size in range(1, people + 1) for row in permutations(range(people), size)]


def hopeful(inside, crowd):
    wider = [other for other in inside if plain.within(crowd, other)]
    return tuple(person for person in plain.left(crowd, inside[crowd])
                 if any(person in inside[other] for other in wider))


def right_table(office):
    """The dict from all rows to those let in and just the hopeful."""
    inside = plain.ins(office)
    hopes = {crowd: hopeful(inside, crowd) for crowd in inside}
    return {row: (inside[tuple(sorted(row))], hopes[tuple(sorted(row))]) for row in rows(office.book.people)}


def is_wrong(office, many, table, row):
    """Whether something is wrong with what stands in a table behind a row, nothing being wrong with shorter ones."""
    people, told = office.book.people, table[row]
    if not isinstance(told, tuple) or len(told) != 2 or not all(plain.is_plain_crowd(people, part) for part in told):
        return True
    inside, waiting = told
    before = () if len(row) == 1 else table[row[:-1]][0] + table[row[:-1]][1]
    return (set(inside) & set(waiting) != set()
            or inside != plain.let_in(office.book.lots, office.order, row)
            or len(waiting) > many
            or not set(inside) | set(waiting) <= set(before) | {row[-1]})


def first_wrong(office, many, table):
    return next((row for row in rows(office.book.people) if is_wrong(office, many, table, row)), None)


def offices():
    return [office for office in plain.some_offices(3, 61) if office.book.people <= 4][::2] + [
        ROW, STAR, FREE, Office(Book(1, ()), (0,)), Office(Book(5, ((0, 1), (1, 2), (2, 3), (3, 4))), (1, 4, 2, 0, 3))]


def reading(table):
    return lambda row: table[row]


class KeeperTest(Checks, unittest.TestCase):
    def test_right_ones(self):
        some = 0
        for office in offices():
            table = right_table(office)
            most = places(office)
            some = max(some, most)
            for many in (most, most + 1, 12, 10 ** 59):
                self.assertIsNone(wrong_row(office, many, reading(table)), (office.book.lots, office.order))
            for many in range(most):
                wanted = next(row for row in table if len(table[row][1]) > many)
                self.assertEqual(wrong_row(office, many, reading(table)), wanted)
        self.assertGreaterEqual(some, 3)

    def test_all_rows_are_asked(self):
        for office in offices():
            table = right_table(office)
            asked = []

            def keeper(row):
                asked.append(row)
                return table[row]

            self.assertIsNone(wrong_row(office, 5, keeper))
            self.assertEqual(sorted(set(asked)), sorted(rows(office.book.people)))
            self.assertTrue(all(isinstance(row, tuple) for row in asked))

    def test_more_may_wait(self):
        for office in offices():
            inside = plain.ins(office)
            table = {row: (inside[tuple(sorted(row))], plain.left(row, inside[tuple(sorted(row))]))
                     for row in rows(office.book.people)}
            most = max(len(waiting) for _, waiting in table.values())
            self.assertIsNone(wrong_row(office, most, reading(table)))
            if most > 0:
                wanted = next(row for row in table if len(table[row][1]) > most - 1)
                self.assertEqual(wrong_row(office, most - 1, reading(table)), wanted)

    def spoilt(self, office, many, row, thing):
        """Checks that a keeper that is right but for what it gives at one row is found wrong there."""
        table = {**right_table(office), row: thing}
        self.assertTrue(is_wrong(office, many, table, row), (row, thing))
        self.assertEqual(wrong_row(office, many, reading(table)), row, (row, repr(thing)[:200]))

    def test_no_pair(self):
        for thing in strange():
            if thing != ((), ()):
                self.spoilt(ROW, 3, (2, 1, 0), thing)
                self.spoilt(ROW, 3, (1,), thing)
        for thing in ([(0, 2), ()], ((0, 2),), ((0, 2), (), ()), ((0, 2), None), (None, ()), {0: (0, 2), 1: ()}, (0, 2)):
            self.spoilt(ROW, 3, (0, 1, 2), thing)

    def test_no_crowds(self):
        wrong = [
            ([0, 2], ()), ((0, 2), []), ((0, 2), [1]), ((2, 0), ()), ((0, 0, 2), ()), ((0, 2, 2), ()), ((False, 2), ()),
            ((0, 2), (True,)), ((0, 2), (1, 1)), ((0, 2), (3,)), ((0, 2, 3), ()), ((0, 2), (-1,)), (("0", 2), ()),
            ((0, 2), ((1,),)), ((0, 2), 1), ((0, 2), {}), ((0, 2), {1: True}), ((0, 2), ROW), ("02", ""),
        ]
        for thing in wrong:
            self.spoilt(ROW, 3, (0, 1, 2), thing)
            self.spoilt(ROW, 10 ** 59, (2, 0, 1), thing)
        # Behind (1, 2) the one who came first is in, and the other one waits: so both may be told otherwise.
        for thing in (((True,), (2,)), ((1,), [2]), ([1], (2,)), ((1,), (2, 2)), ((1,), (2, 1))):
            self.spoilt(ROW, 3, (1, 2), thing)
        for thing in (((False,), ()), ([0], ()), ((0,), [])):
            self.spoilt(ROW, 3, (0,), thing)

    def test_in_both(self):
        self.spoilt(ROW, 3, (1, 2), ((1,), (1,)))
        self.spoilt(ROW, 3, (1, 2), ((1,), (1, 2)))
        self.spoilt(ROW, 3, (0,), ((0,), (0,)))
        self.spoilt(FREE, 3, (0, 2, 1), ((0, 1, 2), (2,)))

    def test_others_in(self):
        self.spoilt(ROW, 3, (1, 2), ((2,), (1,)))
        self.spoilt(ROW, 3, (1, 2), ((1, 2), ()))
        self.spoilt(ROW, 3, (1, 2), ((), (1, 2)))
        self.spoilt(ROW, 3, (2, 0), ((2,), ()))
        self.spoilt(ROW, 3, (2, 0), ((), ()))
        self.spoilt(ROW, 3, (0,), ((), ()))
        self.spoilt(ROW, 3, (0,), ((), (0,)))
        self.spoilt(ROW, 3, (0, 1), ((0, 1), ()))

    def test_more_wait_than_many(self):
        self.spoilt(STAR, 1, (1, 2, 3), ((1,), (2, 3)))
        self.spoilt(STAR, 0, (1, 2), ((1,), (2,)))
        self.spoilt(ROW, 0, (1, 2), ((1,), (2,)))

    def test_gone(self):
        # Whoever is let go behind (1, 2) is gone when 0 comes, though let in then.
        table = {**right_table(ROW), (1, 2): ((1,), ())}
        self.assertEqual(wrong_row(ROW, 3, reading(table)), (1, 2, 0))
        table = {**right_table(ROW), (1, 2): ((1,), ()), (2, 1): ((1,), ())}
        self.assertEqual(wrong_row(ROW, 3, reading(table)), (1, 2, 0))
        table = {**right_table(ROW), (2, 1): ((1,), ())}
        self.assertEqual(wrong_row(ROW, 3, reading(table)), (2, 1, 0))
        # Nobody waits who never came, or came to nothing.
        for one in range(3):
            for other in {0, 1, 2} - {one}:
                self.spoilt(FREE, 3, (one,), ((one,), (other,)))
        self.spoilt(FREE, 3, (0, 2), ((0, 2), (1,)))
        self.spoilt(ROW, 3, (0, 1, 2), ((0, 2), (1,)))
        self.spoilt(ROW, 3, (1,), ((1,), (2,)))

    def test_last_comer_may_wait(self):
        table = {**right_table(ROW), (0, 1): ((0,), (1,)), (0, 1, 2): ((0, 2), (1,))}
        self.assertIsNone(wrong_row(ROW, 1, reading(table)))
        self.assertEqual(wrong_row(ROW, 0, reading(table)), (0, 1))

    def test_no_waiting_places(self):
        for office in offices():
            inside = plain.ins(office)
            table = {row: (inside[tuple(sorted(row))], ()) for row in rows(office.book.people)}
            wanted = first_wrong(office, 0, table)
            self.assertEqual(wanted is None, plain.is_steady(office))
            self.assertEqual(wrong_row(office, 0, reading(table)), wanted)

    def test_first_row(self):
        table = right_table(STAR)
        choices = [(3,), (1, 0), (0, 4), (4, 0), (2, 1, 0), (1, 3, 2), (0, 1, 2, 3), (4, 3, 2, 1, 0)]
        for k in range(len(choices)):
            for j in range(k):
                wanted = min((choices[k], choices[j]), key=lambda row: (len(row), row))
                spoilt = {**table, choices[k]: None, choices[j]: ((), (0, 0))}
                self.assertEqual(wrong_row(STAR, 3, reading(spoilt)), wanted)
        self.assertEqual(wrong_row(STAR, 3, lambda row: None), (0,))

    def test_going_through(self):
        rand = random.Random(62)
        found = []
        for office in offices():
            every = rows(office.book.people)
            right = right_table(office)
            for _ in range(12):
                table = dict(right)
                for row in rand.sample(every, min(len(every), rand.randint(1, 4))):
                    inside, waiting = right[row]
                    if rand.random() < 0.3:
                        inside = plain.random_crowd(rand, office.book.people)
                    if rand.random() < 0.8:
                        waiting = tuple(sorted(rand.sample(row, rand.randint(0, len(row)))))
                    table[row] = (inside, waiting)
                many = rand.randint(0, 3)
                wanted = first_wrong(office, many, table)
                found.append(wanted is None)
                told = (office.book.lots, office.order, many, table)
                self.assertEqual(wrong_row(office, many, reading(table)), wanted, told)
        self.assertIn(True, found)
        self.assertIn(False, found)

    def test_errors_go_on(self):
        class Own(Exception):
            pass

        for kind in (Own, KeyError, ValueError, NoNumber, LookupError, StopIteration, RuntimeError):
            for at in ((0,), (2, 1), (2, 1, 0)):
                table = right_table(ROW)

                def keeper(row):
                    if row == at:
                        raise kind()
                    return table[row]

                with self.assertRaises(kind) as caught:
                    wrong_row(ROW, 3, keeper)
                self.assertIs(caught.exception.__class__, kind)

    def test_too_many_first(self):
        def never(row):
            raise KeyError()

        for office in (SIX, Office(Book(12, ()), tuple(range(12)))):
            for many in (0, 5, -1, None, True, "0"):
                self.raises(TooMany, wrong_row, office, many, never, most=5)
        self.assertIsNone(wrong_row(Office(Book(5, ()), tuple(range(5))), 0, lambda row: (tuple(sorted(row)), ())))

    def test_no_number(self):
        def never(row):
            raise KeyError()

        for wrong in plain.bad_numbers():
            self.raises(NoNumber, wrong_row, ROW, wrong, never)

"""The document's examples e01 to e17."""

import unittest

from lastoflot.alike import alike, parting, steps
from lastoflot.always import always_steady, spare
from lastoflot.asking import asked_least
from lastoflot.books import Book
from lastoflot.chances import chances, mean_number
from lastoflot.closed import is_called_back
from lastoflot.comers import comer
from lastoflot.fellows import bound_pairs, many_fellows
from lastoflot.greatest import generous, least_share, most
from lastoflot.kinds import Kinds, counts_after, entered, passing_row
from lastoflot.looks import looked_through
from lastoflot.offices import Office, from_below, lasts, let_in, reasons
from lastoflot.rules import lots_by
from lastoflot.sightings import fitting, many_fitting
from lastoflot.steady import clash, is_recall, steady, thirds
from lastoflot.tables import list_for, many_tables
from lastoflot.texts import office_text
from lastoflot.turns import flower, flower_ahead, next_day
from lastoflot.waiting import hopeful, kept, places

b = Book(3, ((0, 1), (1, 2)))
t = Book(3, ((0, 1), (0, 2), (1, 2)))
o = Office(b, (0, 1, 2))
p = Office(Book(3, ((0, 1), (0, 2))), (0, 1, 2))
k = Kinds(2, ((1, 1),))


class ExampleTest(unittest.TestCase):
    def test_e01(self):
        rules = (("most", 2, (0, 1, 2)), ("without", 3, (0, 1)))
        self.assertEqual(lots_by(4, rules).lots, ((0, 1, 2), (0, 3), (1, 3)))

    def test_e02(self):
        found = (lasts(o), let_in(o, (1, 2)), let_in(o, (0, 1, 2)), reasons(o, (0, 1, 2)))
        self.assertEqual(found, ((1, 2), (1,), (0, 2), {1: (0, 1)}))
        self.assertEqual(from_below(o, (0, 1, 2)), (0,))

    def test_e03(self):
        self.assertEqual((alike(o, p), parting(o, p)), (False, (0, 2)))
        self.assertEqual(steps(p, Office(p.book, (0, 2, 1))), (1,))

    def test_e04(self):
        self.assertEqual((many_fellows(o), many_fellows(p), bound_pairs(p)), (1, 2, [(0, 1), (0, 2)]))

    def test_e05(self):
        self.assertEqual((many_tables(b), many_tables(t), list_for(t, (0, 2, 1))), (4, 6, None))

    def test_e06(self):
        self.assertEqual((steady(o), clash(o), steady(p), thirds(p)), (False, (0, 1), True, {}))
        self.assertIs(is_recall(o, ((1, 2), 0, 2)), True)

    def test_e07(self):
        self.assertEqual((always_steady(b), spare(b), always_steady(t)), (False, (0, 1, 1), True))

    def test_e08(self):
        wanted = ((2,), 1, [((2,), ()), ((1,), (2,)), ((0, 2), ())])
        self.assertEqual((hopeful(o, (1, 2)), places(o), kept(o, (2, 1, 0))), wanted)

    def test_e09(self):
        sightings = [((0, 1, 2), (0, 2))]
        self.assertEqual((fitting(b, sightings), many_fitting(b, sightings)), ((0, 1, 2), 4))

    def test_e10(self):
        self.assertEqual(comer(o, (1, 2), 0), ((2,), (1,)))

    def test_e11(self):
        found = (most(b, (0, 1, 2)), generous(o), least_share(Office(b, (1, 0, 2))))
        self.assertEqual(found, (2, True, ((1, 2), (0, 1, 2))))

    def test_e12(self):
        found = (flower(b, 1), flower_ahead(o, 1), next_day(o, (0, 1)).order)
        self.assertEqual(found, (((0, 1), (1, 2)), ((0, 1),), (1, 2, 0)))

    def test_e13(self):
        self.assertEqual(looked_through(o, (0, 1, 2), (1,), (2, 1, 0, 1, 2)), (0, 2))

    def test_e14(self):
        wanted = ({0: (2, 3), 1: (1, 3), 2: (2, 3)}, (5, 3))
        self.assertEqual((chances(b, (0, 1, 2)), mean_number(b, (0, 1, 2))), wanted)

    def test_e15(self):
        self.assertEqual(asked_least(b), 2)

    def test_e16(self):
        found = (entered(k, (0, 0, 1, 0)), counts_after(k, (0, 1), 10 ** 20), passing_row(k, 0, 1))
        self.assertEqual(found, ([True, True, False, True], (10 ** 20, 0), ()))
        self.assertIs(is_called_back(k, ((0, 1), 0, 1)), True)

    def test_e17(self):
        self.assertEqual(office_text(o), "people 3\n0 1\n1 2\nlist 0 1 2\n")

"""Books of kinds in which nobody is ever called back (15.3)."""

import random
import unittest
from itertools import product

from lastoflot.closed import called_back, is_called_back, steady_kinds, steady_table
from lastoflot.kinds import Kinds
from tests import plain
from tests.plain import Checks, strange

APART = Kinds(2, ((1, 1),))
FREE = Kinds(2, ())
ONE_IN = Kinds(2, ((0, 2), (1, 1), (2, 0)))
EACH_ONE = Kinds(2, ((0, 2), (2, 0)))
SOME = Kinds(3, ((0, 1, 1), (1, 0, 1), (1, 1, 0)))


def calls_back(kinds, row, place, kind):
    """Whether one more comer of a kind, put in ahead of a place, lets in somebody behind who was out."""
    before = plain.entered(kinds, row)[0]
    after = plain.entered(kinds, row[:place] + (kind,) + row[place:])[0]
    return any(not old and new for old, new in zip(before[place:], after[place + 1:]))


def plain_calls(kinds, longest):
    """All triples with rows up to so many comers by which somebody is called back."""
    return [(row, place, kind) for row in plain.kind_rows(kinds.many, longest) for place in range(len(row))
            for kind in range(kinds.many) if calls_back(kinds, row, place, kind)]


def told_up_to(kinds, counts):
    return tuple(min(count, max([0] + [lot[k] for lot in kinds.lots])) for k, count in enumerate(counts))


def pairs_of_rows(kinds, longest):
    """All pairs of counts of a row up to so many comers and of it with one more comer, as they are told."""
    found = set()
    for row in plain.kind_rows(kinds.many, longest):
        one = told_up_to(kinds, plain.entered(kinds, row)[1])
        for place in range(len(row) + 1):
            for kind in range(kinds.many):
                other = plain.entered(kinds, row[:place] + (kind,) + row[place:])[1]
                found.add((one, told_up_to(kinds, other)))
    return tuple(sorted(found))


def pairs_on(kinds):
    """The like by going on from pair to pair, each count kept up to two more than any lot has."""
    def step(counts, kind):
        more = counts[:kind] + (counts[kind] + 1,) + counts[kind + 1:]
        if any(plain.at_most(lot, more) for lot in kinds.lots):
            return counts
        return tuple(min(count, 6) for count in more)

    met, front = set(), [((0,) * kinds.many, None)]
    while front:
        one, other = front.pop()
        for kind in range(kinds.many):
            more = [(one, step(one, kind)), (step(one, kind), None)]
            if other is not None:
                more = [(step(one, kind), step(other, kind))]
            new = [pair for pair in more if pair not in met]
            met |= set(new)
            front += new
    return tuple(sorted({(told_up_to(kinds, one), told_up_to(kinds, other)) for one, other in met if other is not None}))


class SteadyTest(Checks, unittest.TestCase):
    def told(self, kinds, calls):
        """Checks all three against the triples that a going through rows has found."""
        found = self.leaves(called_back, kinds)
        self.assertIs(steady_kinds(kinds), found is None, kinds.lots)
        self.assertIs(steady_table(kinds) is None, found is not None, kinds.lots)
        self.assertLessEqual(found is None, calls == [], kinds.lots)
        if found is not None:
            self.assertIsInstance(found, tuple)
            self.assertTrue(calls_back(kinds, *found), kinds.lots)
            self.assertLess(found[1], len(found[0]))
            self.assertLessEqual(len(found[0]), 200)
            self.accepts(is_called_back, kinds, found)
        return found

    def test_going_through(self):
        steady = 0
        for kinds in plain.small_kinds():
            calls = plain_calls(kinds, 6)
            found = self.told(kinds, calls)
            self.assertEqual(found is None, calls == [], kinds.lots)
            steady += found is None
        self.assertGreater(steady, 4)
        self.assertLess(steady, len(plain.small_kinds()))

    def test_three_kinds(self):
        rand = random.Random(201)
        for most in (0, 1, 2, 3, 4, 5, 6, 9):
            for _ in range(4):
                kinds = plain.random_kinds(rand, 3, most, 2)
                self.told(kinds, plain_calls(kinds, 5))

    def test_great_ones(self):
        rand = random.Random(202)
        for kinds in plain.great_kinds() + plain.fair_kinds():
            calls = []
            for _ in range(60):
                row = tuple(rand.randrange(kinds.many) for _ in range(rand.randint(1, 25)))
                triple = (row, rand.randrange(len(row)), rand.randrange(kinds.many))
                calls += [triple] * calls_back(kinds, *triple)
            self.told(kinds, calls)

    def test_bounds_on_each(self):
        # So many of each kind, or so many together: nobody is ever called back.
        for some in (EACH_ONE, ONE_IN, FREE, Kinds(1, ((4,),)), Kinds(3, ((0, 0, 4), (0, 3, 0), (2, 0, 0))),
                     Kinds(2, ((0, 3), (1, 2), (2, 1), (3, 0))), Kinds(3, ((2, 0, 0),)), Kinds(1, ()),
                     Kinds(3, tuple(sorted(lot for lot in product(range(3), repeat=3) if sum(lot) == 2)))):
            self.assertIs(steady_kinds(some), True, some.lots)
            self.assertIsNone(called_back(some))
            self.refuses(is_called_back, some, things=[((0,) * 9, 0, 0), ((0,) * 9, 8, 0)])
        for some in (APART, SOME, Kinds(2, ((4, 4),)), Kinds(2, ((0, 3), (1, 1), (3, 0))), Kinds(3, ((4, 4, 4),))):
            self.assertIs(steady_kinds(some), False, some.lots)

    def test_is_called_back(self):
        for kinds in plain.small_kinds()[::2] + [SOME, Kinds(3, ((1, 1, 1),))]:
            for row in plain.kind_rows(kinds.many, 6 - kinds.many):
                for place in range(len(row)):
                    for kind in range(kinds.many):
                        wanted = calls_back(kinds, row, place, kind)
                        self.same_flag(wanted, is_called_back(kinds, (row, place, kind)), kinds.lots, row, place, kind)

    def test_long_rows(self):
        self.accepts(is_called_back, APART, ((0, 1), 0, 1))
        self.accepts(is_called_back, APART, ((0,) * 199 + (1,), 0, 1))
        self.accepts(is_called_back, APART, ((0, 1) * 100, 0, 1))
        self.accepts(is_called_back, Kinds(2, ((2, 1),)), ((0, 0) + (1,) * 198, 0, 1))
        self.refuses(is_called_back, APART, things=[((0,) * 200 + (1,), 0, 1), ((0, 1) * 100 + (1,), 0, 1),
                                                    ((0,) * 200, 0, 1), ((0,) * 199 + (1,), 1, 1)])

    def test_one_thing_wrong(self):
        right = ((0, 1), 0, 1)
        self.accepts(is_called_back, APART, right)
        self.accepts(is_called_back, APART, ((1, 0), 0, 0))
        self.refuses(is_called_back, APART, things=[
            [(0, 1), 0, 1], ([0, 1], 0, 1), ((0, 1), 1, 1), ((0, 1), 2, 1), ((0, 1), 0, 0), ((0, 1), -2, 1), ((0, 1), False, 1),
            ((0, 1), 0, True), ((0, True), 0, 1), ((False, 1), 0, 1), ((0, 1), 0), ((0, 1), 0, 1, 0), ((0,), 0, 1), ((), 0, 1),
            ((0, 1), 0, 2), ((0, 1), 0, -1), ((0, 1), None, 1), ((0, 1), 0, None), ((0, 1), (0,), 1), ((0, 1), 0, (1,)),
            ((0, 1), "0", "1"), ("01", 0, 1), ((0, 2), 0, 1), ((0, 1, 2), 0, 1), ((0, 1), 10 ** 59, 1), ((1, 0), 0, 1),
            ((0, 1), -1, 1), ((0, 0), 0, 1), ((0, 1, None), 0, 1), ((0, 1), [], {}), ((0, 1), 0.5 > 1, 1)])
        self.refuses(is_called_back, APART, things=strange())
        for thing in strange():
            self.refuses(is_called_back, EACH_ONE, things=[(thing, 0, 1), ((0, 1), thing, 1), ((0, 1), 0, thing)])

    def test_strange_parts(self):
        for thing in strange():
            for triple in ((thing, 0, 1), ((0, 1), thing, 1), ((0, 1), 0, thing), ((0, thing), 0, 1)):
                row, place, kind = triple
                wanted = plain.is_plain_kind_row(APART, row) and plain.is_plain_kind(APART, kind) and (
                    plain.is_plain_kind(APART, place) and place < len(row)) and calls_back(APART, row, place, kind)
                self.same_flag(wanted, is_called_back(APART, triple))


class TableTest(Checks, unittest.TestCase):
    def test_going_through_rows(self):
        some = [kinds for kinds in plain.small_kinds() if steady_kinds(kinds)]
        for kinds in some:
            self.assertEqual(steady_table(kinds), pairs_of_rows(kinds, 9 - kinds.many), kinds.lots)
        self.assertGreater(len(some), 4)

    def test_going_on(self):
        rand = random.Random(203)
        some = plain.fair_kinds() + [plain.random_kinds(rand, 3, most, 2) for most in (4, 9, 20, 30) for _ in range(8)]
        some += [Kinds(3, ((0, 0, 4), (0, 3, 0), (2, 0, 0))), Kinds(2, ((0, 4), (1, 3), (2, 2), (3, 1), (4, 0))), EACH_ONE,
                 Kinds(3, ((0, 0, 2),)), Kinds(3, ((0, 0, 3), (0, 1, 2), (0, 2, 1), (0, 3, 0))), ONE_IN]
        told = 0
        for kinds in some:
            table = self.leaves(steady_table, kinds)
            if table is None:
                self.assertIsNotNone(called_back(kinds))
            else:
                self.assertIsNone(called_back(kinds))
                self.assertEqual(table, pairs_on(kinds), kinds.lots)
                told += 1
        self.assertGreater(told, 12)

    def test_no_lots(self):
        self.assertEqual(steady_table(Kinds(1, ())), (((0,), (0,)),))
        self.assertEqual(steady_table(FREE), (((0, 0), (0, 0)),))
        self.assertEqual(steady_table(Kinds(3, ())), (((0, 0, 0), (0, 0, 0)),))

    def test_named(self):
        # Nobody yet and one more; one in, the one more being ahead of it or out.
        self.assertEqual(steady_table(Kinds(1, ((2,),))), (((0,), (1,)), ((1,), (1,))))
        self.assertEqual(steady_table(Kinds(1, ((3,),))), (((0,), (1,)), ((1,), (2,)), ((2,), (2,))))
        self.assertEqual(steady_table(Kinds(2, ((0, 2),))), (
            ((0, 0), (0, 0)), ((0, 0), (0, 1)), ((0, 1), (0, 1))))
        self.assertEqual(steady_table(ONE_IN), (
            ((0, 0), (0, 1)), ((0, 0), (1, 0)), ((0, 1), (0, 1)), ((0, 1), (1, 0)), ((1, 0), (0, 1)), ((1, 0), (1, 0))))
        self.assertIsNone(steady_table(APART))
        self.assertIsNone(steady_table(SOME))

    def test_kinds_of_result(self):
        table = steady_table(EACH_ONE)
        self.assertIsInstance(table, tuple)
        self.assertEqual(list(table), sorted(set(table)))
        for pair in table:
            self.assertIsInstance(pair, tuple)
            self.assertEqual([counts.__class__ for counts in pair], [tuple, tuple])

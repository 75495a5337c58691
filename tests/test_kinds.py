"""Books of kinds (15.1, 15.2)."""

import random
import unittest
from itertools import permutations, product

from lastoflot.books import Book
from lastoflot.errors import BadKinds, NoKind, NoKinds, NoNumber, OtherKinds
from lastoflot.kinds import Kinds, counts_after, entered, entered_counts, may_pass, passing_row, unlike_row
from lastoflot.offices import Office
from tests import plain
from tests.plain import Checks, strange

APART = Kinds(2, ((1, 1),))
FREE = Kinds(2, ())
TWELVE = tuple(sorted(lot for lot in product(range(5), repeat=3) if sum(lot) == 6))[:12]


class KindsTest(Checks, unittest.TestCase):
    def test_right_ones(self):
        self.assertEqual((APART.many, APART.lots), (2, ((1, 1),)))
        for many, lots in ((1, ()), (2, ()), (3, ()), (1, ((2,),)), (1, ((4,),)), (2, ((0, 2), (1, 1), (2, 0))),
                           (2, ((0, 4), (4, 0))), (3, ((4, 4, 4),)), (3, TWELVE), (3, ((0, 0, 2), (0, 1, 1)))):
            kinds = Kinds(many, lots)
            self.assertEqual((kinds.many, kinds.lots), (many, lots))
            self.assertIs(kinds.many.__class__, int)

    def test_wrong_many(self):
        for wrong in [0, 4, -1, 10 ** 59, 12] + [thing for thing in strange() if not plain.is_plain_number(thing)]:
            for lots in ((), ((1, 1),), None, [], ((0,),)):
                self.raises(BadKinds, Kinds, wrong, lots, part="many", at=-1)

    def test_wrong_lots(self):
        for wrong in [thing for thing in strange() if not isinstance(thing, tuple)] + [[(1, 1)], {(1, 1): 0}]:
            self.raises(BadKinds, Kinds, 2, wrong, part="lots", at=-1)
        every = tuple(sorted(lot for lot in product(range(5), repeat=3) if sum(lot) == 6))
        self.assertEqual(Kinds(3, every[-12:]).lots, every[-12:])
        for wrong in (every[:13], every, TWELVE + (None,), ((0,),) * 13, (None,) * 13, (0,) * 20000):
            self.raises(BadKinds, Kinds, 3, wrong, part="lots", at=-1)

    def test_wrong_counts(self):
        wrong = [thing for thing in strange() if not isinstance(thing, tuple) or not all(
            plain.is_plain_number(item) for item in thing) or len(thing) != 2 or sum(thing) < 2 or max(thing) > 4]
        wrong += [(1, 0), (0, 1), (0, 0), (5, 0), (0, 5), (2, -1), (-1, 3), (True, 2), (2, True), (False, 2), (1, True),
                  [1, 1], (2,), (1, 1, 0), (1, 1, 1), (), "11", ("1", "1"), ((1,), 1), (None, 2), {1: 1}, (2, 10 ** 59),
                  ([], []), (1, 1.5 > 1)]
        for thing in wrong:
            self.raises(BadKinds, Kinds, 2, (thing,), part="lots", at=0)
            self.raises(BadKinds, Kinds, 2, ((0, 3), thing), part="lots", at=1)
            self.raises(BadKinds, Kinds, 2, (thing, thing), part="lots", at=0)
            self.raises(BadKinds, Kinds, 2, ((0, 3), thing, None, (1, 1)), part="lots", at=1)
        for thing in (2, (1,), (0,), (5,), (True,), [2], ("2",)):
            self.raises(BadKinds, Kinds, 1, (thing,), part="lots", at=0)
        self.raises(BadKinds, Kinds, 3, ((1, 1),), part="lots", at=0)

    def test_out_of_order(self):
        for lots, at in ((((1, 1), (1, 1)), 1), (((2, 0), (1, 1)), 1), (((0, 2), (2, 0), (1, 1)), 2),
                         (((0, 3), (2, 0), (1, 2)), 2), (((0, 4), (1, 2), (0, 3)), 2), (((0, 2), (2, 0), (0, 2)), 2),
                         (((0, 4), (1, 3), (2, 2), (2, 2), None), 3)):
            self.raises(BadKinds, Kinds, 2, lots, part="lots", at=at)

    def test_one_at_most_another(self):
        # Of the items in order, one ahead may be at most the one behind, or the one behind cannot be so.
        for lots, at in ((((0, 2), (0, 3)), 1), (((0, 2), (1, 2)), 1), (((0, 3), (1, 1), (1, 2)), 2),
                         (((0, 3), (1, 1), (2, 1)), 2), (((0, 3), (1, 2), (2, 3)), 2), (((0, 2), (1, 1), (4, 2)), 2),
                         (((0, 2), (1, 1), (2, 0), (4, 4)), 3), (((1, 1), (1, 4)), 1)):
            self.raises(BadKinds, Kinds, 2, lots, part="lots", at=at)
        self.raises(BadKinds, Kinds, 1, ((2,), (3,)), part="lots", at=1)
        # One that is at most one ahead of it is out of order as well.
        self.raises(BadKinds, Kinds, 2, ((2, 2), (1, 1)), part="lots", at=1)
        self.raises(BadKinds, Kinds, 3, ((0, 1, 2), (0, 2, 1), (1, 0, 2), (1, 1, 1), (1, 2, 1)), part="lots", at=4)
        self.assertEqual(len(Kinds(3, ((0, 1, 2), (0, 2, 1), (1, 0, 2), (1, 1, 1))).lots), 4)

    def test_going_through(self):
        # All pairs and triples of counts, by the words.
        every = list(product(range(4), repeat=2))
        for lots in list(product(every, repeat=2)) + random.Random(193).sample(list(product(every, repeat=3)), 800):
            wanted = None
            for at, lot in enumerate(lots):
                near = any(plain.at_most(lot, other) or plain.at_most(other, lot) for other in lots[:at])
                if sum(lot) < 2 or near or (at and lot <= lots[at - 1]):
                    wanted = at
                    break
            if wanted is None:
                self.assertEqual(Kinds(2, lots).lots, lots)
            else:
                self.raises(BadKinds, Kinds, 2, lots, part="lots", at=wanted)

    def test_equality(self):
        self.assertEqual(APART, Kinds(2, ((1, 1),)))
        self.assertFalse(APART != Kinds(2, ((1, 1),)))
        for other in [FREE, Kinds(2, ((0, 2),)), Kinds(2, ((0, 2), (1, 1))), (2, ((1, 1),)), Book(2, ((0, 1),)),
                      Office(Book(2, ((0, 1),)), (0, 1))] + strange():
            self.assertFalse(APART == other)
            self.assertTrue(APART != other)
        self.assertNotEqual(Kinds(1, ()), FREE)
        self.assertNotEqual(Kinds(2, ()), Book(2, ()))
        self.assertNotEqual(Book(2, ()), Kinds(2, ()))


class EnteredTest(Checks, unittest.TestCase):
    def test_going_through(self):
        for kinds in plain.fair_kinds():
            for row in plain.kind_rows(kinds.many, 7 - kinds.many):
                flags, counts = plain.entered(kinds, row)
                self.assertEqual(entered(kinds, row), flags, (kinds.lots, row))
                self.assertEqual(entered_counts(kinds, row), counts, (kinds.lots, row))

    def test_long_rows(self):
        rand = random.Random(194)
        for kinds in plain.fair_kinds() + plain.great_kinds():
            for size in (20, 199, 200):
                row = tuple(rand.randrange(kinds.many) for _ in range(size))
                flags, counts = plain.entered(kinds, row)
                self.assertEqual(entered(kinds, row), flags)
                self.assertEqual(entered_counts(kinds, row), counts)
                self.assertEqual({flag.__class__ for flag in entered(kinds, row)}, {bool})
                self.assertEqual(sum(counts), flags.count(True))

    def test_named(self):
        self.assertEqual(entered(APART, (0, 0, 1, 0)), [True, True, False, True])
        self.assertEqual(entered_counts(APART, (0, 0, 1, 0)), (3, 0))
        self.assertEqual(entered(APART, ()), [])
        self.assertEqual(entered_counts(APART, ()), (0, 0))
        self.assertEqual(entered_counts(Kinds(3, ()), ()), (0, 0, 0))
        self.assertEqual(entered(Kinds(1, ((3,),)), (0, 0, 0, 0)), [True, True, False, False])
        self.assertEqual(entered_counts(FREE, (1,) * 200), (0, 200))
        self.is_new(entered, APART, (0, 1))

    def test_no_kinds(self):
        for many in (1, 2, 3):
            for wrong in plain.bad_kind_rows(many):
                self.raises(NoKinds, entered, Kinds(many, ()), wrong)
                self.raises(NoKinds, entered_counts, Kinds(many, ()), wrong)
        for call in (entered, entered_counts):
            self.raises(NoKinds, call, APART, (0, 1) * 100 + (0,))
            self.raises(NoKinds, call, APART, [0, 1])
            self.raises(NoKinds, call, APART, (0, True))
            self.raises(NoKinds, call, APART, (2,))


class CountsAfterTest(Checks, unittest.TestCase):
    def test_going_on(self):
        rand = random.Random(195)
        for kinds in plain.fair_kinds() + plain.great_kinds():
            some = [()] + [tuple(rand.randrange(kinds.many) for _ in range(rand.randint(1, 7))) for _ in range(6)]
            for row in some:
                for times in (0, 1, 2, 3, 4, 5, 8, 13, 14, 30):
                    wanted = plain.entered(kinds, row * times)[1]
                    self.assertEqual(counts_after(kinds, row, times), wanted, (kinds.lots, row, times))

    def test_very_often(self):
        # What each time adds is the same from some time on: so 40 and 41 times tell all greater numbers.
        rand = random.Random(196)
        for kinds in plain.fair_kinds() + plain.great_kinds():
            for size in (1, 2, 5, 9):
                row = tuple(rand.randrange(kinds.many) for _ in range(size))
                some, more = (plain.entered(kinds, row * times)[1] for times in (40, 41))
                for times in (10 ** 30, 10 ** 30 - 1, 10 ** 20, 12345678901234567890):
                    wanted = tuple(one + (other - one) * (times - 40) for one, other in zip(some, more))
                    self.assertEqual(counts_after(kinds, row, times), wanted, (kinds.lots, row, times))

    def test_named(self):
        self.assertEqual(counts_after(APART, (0, 1), 10 ** 20), (10 ** 20, 0))
        self.assertEqual(counts_after(APART, (1, 0), 1), (0, 1))
        self.assertEqual(counts_after(APART, (1, 0), 0), (0, 0))
        self.assertEqual(counts_after(APART, (), 10 ** 30), (0, 0))
        self.assertEqual(counts_after(FREE, (0, 1, 1), 10 ** 30), (10 ** 30, 2 * 10 ** 30))
        self.assertEqual(counts_after(Kinds(1, ((4,),)), (0,), 10 ** 30), (3,))
        self.assertEqual(counts_after(Kinds(1, ((4,),)), (0,), 2), (2,))
        self.assertEqual(counts_after(FREE, (1,) * 200, 10 ** 30), (0, 2 * 10 ** 32))
        # The one kind goes on only until two of the other are in.
        slow = Kinds(2, ((2, 4),))
        self.assertEqual([counts_after(slow, (1, 0), times) for times in range(6)],
                         [(0, 0), (1, 1), (2, 2), (3, 3), (4, 3), (5, 3)])
        self.assertEqual(counts_after(slow, (1, 0), 10 ** 30), (10 ** 30, 3))
        self.assertEqual(counts_after(slow, (1, 1, 1, 1, 0), 10 ** 30), (1, 4 * 10 ** 30))

    def test_errors(self):
        wrong_times = [10 ** 30 + 1, -1, -10 ** 30, True, False, None, "1", (1,), [], 10 ** 59]
        for times in wrong_times + [thing for thing in strange() if not plain.is_plain_number(thing)]:
            self.raises(NoNumber, counts_after, APART, (0, 1), times)
            self.raises(NoNumber, counts_after, APART, (), times)
            self.raises(NoKinds, counts_after, APART, (0, 2), times)
            self.raises(NoKinds, counts_after, APART, None, times)
        for many in (1, 2, 3):
            for row in plain.bad_kind_rows(many):
                for times in (0, 1, 10 ** 30):
                    self.raises(NoKinds, counts_after, Kinds(many, ()), row, times)


class UnlikeTest(Checks, unittest.TestCase):
    def plain_unlike(self, one, other, longest):
        for row in plain.kind_rows(one.many, longest):
            if plain.entered(one, row)[0] != plain.entered(other, row)[0]:
                return row
        return None

    def told(self, one, other, wanted):
        found = self.leaves(unlike_row, one, other)
        self.assertEqual(found, wanted, (one.lots, other.lots))
        self.assertEqual(found is None, one.lots == other.lots)

    def test_going_through(self):
        rand = random.Random(197)
        some = [kinds for kinds in plain.small_kinds() if kinds.many == 2]
        for one, other in product(some, repeat=2):
            self.told(one, other, self.plain_unlike(one, other, 5))
        some = [plain.random_kinds(rand, 2, most, 3) for most in (1, 2, 3, 5) for _ in range(5)]
        for one, other in product(some, repeat=2):
            self.told(one, other, self.plain_unlike(one, other, 7) if one.lots != other.lots else None)
        ones = [kinds for kinds in plain.small_kinds() if kinds.many == 1]
        for one, other in product(ones, repeat=2):
            self.told(one, other, self.plain_unlike(one, other, 5))

    def test_three_kinds(self):
        rand = random.Random(198)
        some = [plain.random_kinds(rand, 3, most, 2) for most in (1, 2, 3, 4, 6) for _ in range(3)]
        for one, other in rand.sample(list(product(some, repeat=2)), 40) + [(kinds, kinds) for kinds in some]:
            self.told(one, other, self.plain_unlike(one, other, 7) if one.lots != other.lots else None)

    def test_near_ones(self):
        # With one lot left out, the least row ends where that lot would be in whole, and nothing else would.
        for kinds in plain.great_kinds():
            for k in range(len(kinds.lots)):
                less = Kinds(kinds.many, kinds.lots[:k] + kinds.lots[k + 1:])
                wanted = tuple(kind for kind in range(kinds.many) for _ in range(kinds.lots[k][kind]))
                self.told(kinds, less, wanted)
                self.told(less, kinds, wanted)
            self.told(kinds, Kinds(kinds.many, kinds.lots), None)

    def test_named(self):
        self.assertEqual(unlike_row(APART, FREE), (0, 1))
        self.assertEqual(unlike_row(FREE, Kinds(2, ((2, 0),))), (0, 0))
        self.assertEqual(unlike_row(Kinds(2, ((0, 2),)), Kinds(2, ((2, 0),))), (0, 0))
        self.assertEqual(unlike_row(Kinds(2, ((0, 2),)), Kinds(2, ((0, 3),))), (1, 1))
        self.assertEqual(unlike_row(Kinds(2, ((4, 4),)), FREE), (0, 0, 0, 0, 1, 1, 1, 1))
        self.assertEqual(unlike_row(Kinds(3, ((4, 4, 4),)), Kinds(3, ())), (0,) * 4 + (1,) * 4 + (2,) * 4)
        self.assertIsNone(unlike_row(FREE, FREE))

    def test_other_kinds(self):
        for one, other in permutations((Kinds(1, ()), FREE, Kinds(3, ()), Kinds(1, ((2,),)), Kinds(3, TWELVE)), 2):
            if one.many != other.many:
                self.raises(OtherKinds, unlike_row, one, other)


class PassingTest(Checks, unittest.TestCase):
    def plain_passing(self, kinds, a, b, longest):
        for row in plain.kind_rows(kinds.many, longest):
            flags = plain.entered(kinds, row + (a, b))[0]
            if flags[-2:] != plain.entered(kinds, row + (b, a))[0][:-3:-1]:
                return row
        return None

    def told(self, kinds, a, b, wanted):
        self.assertEqual(passing_row(kinds, a, b), wanted, (kinds.lots, a, b))
        self.same_flag(wanted is None, may_pass(kinds, a, b), (kinds.lots, a, b))

    def test_going_through(self):
        rand = random.Random(199)
        some = [kinds for kinds in plain.small_kinds() if kinds.many == 2]
        for kinds in some + [plain.random_kinds(rand, 2, most, 3) for most in (1, 2, 3, 4) for _ in range(4)]:
            for a, b in ((0, 1), (1, 0)):
                self.told(kinds, a, b, self.plain_passing(kinds, a, b, 6))
        for most in (0, 1, 2, 3, 4, 6):
            for _ in range(3):
                kinds = plain.random_kinds(rand, 3, most, 2)
                for a, b in permutations(range(3), 2):
                    self.told(kinds, a, b, self.plain_passing(kinds, a, b, 5))

    def test_whole_rows(self):
        # Where two kinds may pass, everybody in every row fares as before; else it shows behind the row.
        rand = random.Random(200)
        for kinds in plain.fair_kinds() + plain.great_kinds():
            for a, b in permutations(range(kinds.many), 2):
                if may_pass(kinds, a, b):
                    for _ in range(20):
                        ahead, behind = (tuple(rand.randrange(kinds.many) for _ in range(rand.randint(0, 14)))
                                         for _ in range(2))
                        flags = plain.entered(kinds, ahead + (a, b) + behind)[0]
                        k = len(ahead)
                        flags[k], flags[k + 1] = flags[k + 1], flags[k]
                        self.assertEqual(flags, plain.entered(kinds, ahead + (b, a) + behind)[0])
                else:
                    row = passing_row(kinds, a, b)
                    flags = plain.entered(kinds, row + (a, b))[0][-2:]
                    self.assertNotEqual(flags, plain.entered(kinds, row + (b, a))[0][:-3:-1])

    def test_named(self):
        self.assertEqual(passing_row(APART, 0, 1), ())
        self.assertIs(may_pass(APART, 0, 1), False)
        self.assertIsNone(passing_row(FREE, 0, 1))
        self.assertIs(may_pass(FREE, 1, 0), True)
        self.assertIsNone(passing_row(Kinds(2, ((0, 2), (2, 0))), 0, 1))
        self.assertEqual(passing_row(Kinds(2, ((1, 2),)), 0, 1), (1,))
        self.assertEqual(passing_row(Kinds(2, ((4, 4),)), 1, 0), (0, 0, 0, 1, 1, 1))
        # All three go together: with the third kind none of the others passes.
        self.assertEqual(passing_row(Kinds(3, ((1, 1, 1),)), 0, 1), (2,))
        self.assertEqual(passing_row(Kinds(3, ((1, 1, 1),)), 2, 1), (0,))

    def test_no_kind(self):
        for call in (may_pass, passing_row):
            for many in (1, 2, 3):
                kinds = Kinds(many, ())
                for wrong in plain.bad_kinds(many):
                    self.raises(NoKind, call, kinds, wrong, 0)
                    self.raises(NoKind, call, kinds, 0, wrong)
                    self.raises(NoKind, call, kinds, wrong, wrong)
                for kind in range(many):
                    self.raises(NoKind, call, kinds, kind, kind)
            self.raises(NoKind, call, APART, True, 0)
            self.raises(NoKind, call, APART, 0, True)
            self.raises(NoKind, call, APART, 2, 0)
            self.raises(NoKind, call, Kinds(1, ((2,),)), 0, 1)

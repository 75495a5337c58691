"""Choosers and bars to offices (8.1, 8.2)."""

import copy
import random
import unittest
from itertools import combinations, permutations, product

from lastoflot.books import Book
from lastoflot.choosers import bar_to_offices, is_bar_to_offices, is_chooser, office_of
from lastoflot.errors import NoChooser, NoPeople
from lastoflot.offices import Office, outcomes
from tests import plain
from tests.plain import Checks, strange

NO_PEOPLE = [0, 7, -1, 12, 10 ** 59, True, False, None, "3", (3,), [3], {}, Book(3, ()), int, b"\x03"]
KINDS = ("alone", "many", "ring", "lot", "out")


def within(crowd):
    """All crowds within a crowd."""
    return [part for size in range(len(crowd) + 1) for part in combinations(crowd, size)]


def all_choosers(people):
    every = plain.crowds(people)
    return [dict(zip(every, chosen)) for chosen in product(*[within(crowd) for crowd in every])]


def chooser_of(lots, order):
    return {crowd: plain.let_in(lots, order, crowd) for crowd in plain.crowds(len(order))}


def as_key(chooser):
    return tuple(sorted(chooser.items()))


def all_lots(people):
    """The lots of all books of so many people."""
    every = [crowd for crowd in plain.crowds(people) if len(crowd) > 1]
    found = [()]
    for lot in every:
        found += [lots + (lot,) for lots in found if plain.is_clear(lots, lot)]
    return [tuple(sorted(lots)) for lots in found]


def all_offices(people):
    """The dict from what offices let in to their lots and their least list."""
    found = {}
    for lots in all_lots(people):
        for order in plain.lists(people):
            found.setdefault(as_key(chooser_of(lots, order)), (lots, order))
    return found


def least(chooser):
    """The least crowds."""
    return [crowd for crowd in chooser if chooser[crowd] != crowd
            and all(chooser[part] == part for part in within(crowd) if part != crowd)]


def has_just_out(chooser, crowd, person):
    return len(crowd) > 1 and plain.left(crowd, chooser[crowd]) == (person,)


def is_right_bar(chooser, bar):
    """Whether a thing that has the form of a bar is one."""
    word, some = bar[0], least(chooser)
    if word == "alone":
        return chooser[(bar[1],)] == ()
    if word == "many":
        return bar[1] in some and len(plain.left(bar[1], chooser[bar[1]])) != 1
    if word == "ring":
        return all(any({one, other} <= set(crowd) and has_just_out(chooser, crowd, other) for crowd in some)
                   for one, other in zip(bar[1], bar[1][1:] + bar[1][:1]))
    inside = chooser[bar[1]]
    if word == "lot":
        return bar[2] in some and len(bar[2]) > 1 and plain.within(bar[2], inside)
    person = bar[2]
    return person in bar[1] and person not in inside and not any(
        person in crowd and has_just_out(chooser, crowd, person) and set(crowd) - {person} <= set(inside)
        for crowd in some)


def all_bars(people):
    """All things that have the form of a bar."""
    every = plain.crowds(people)
    found = [("alone", person) for person in range(people)] + [("many", crowd) for crowd in every]
    found += [("ring", row) for size in range(2, people + 1) for row in permutations(range(people), size)]
    found += [("lot", crowd, lot) for crowd in every for lot in every]
    return found + [("out", crowd, person) for crowd in every for person in range(people)]


def some_offices(seed, people, many):
    rand = random.Random(seed)
    found = []
    for k in range(many):
        book = plain.random_book(rand, people, k % 8)
        found.append(Office(book, tuple(rand.sample(range(people), people))))
    return found


def changed(rand, chooser):
    """A chooser with one crowd changed."""
    crowd = rand.choice([one for one in chooser if one])
    other = rand.choice([part for part in within(crowd) if part != chooser[crowd]])
    return {**chooser, crowd: other}


class OfficeOfTest(Checks, unittest.TestCase):
    def told(self, people, chooser, wanted):
        """Checks the office of a chooser, or that there is a bar; returns the bar."""
        found = self.leaves(office_of, people, chooser)
        bar = self.leaves(bar_to_offices, people, chooser)
        self.assertEqual(bar is None, wanted is not None, chooser)
        if wanted is None:
            self.assertIsNone(found, chooser)
            self.assertTrue(is_right_bar(chooser, bar), (chooser, bar))
            self.accepts(is_bar_to_offices, people, chooser, bar)
        else:
            self.assertIsInstance(found, Office)
            self.assertEqual((found.book.people, found.book.lots, found.order), (people, *wanted), chooser)
        return bar

    def test_all_choosers(self):
        kinds = []
        for people in (1, 2, 3):
            offices = all_offices(people)
            for chooser in all_choosers(people):
                bar = self.told(people, chooser, offices.get(as_key(chooser)))
                kinds.append(bar and bar[0])
        self.assertLessEqual({None, "alone", "many"}, set(kinds))

    def test_four(self):
        rand = random.Random(91)
        offices = all_offices(4)
        for key in rand.sample(list(offices), 150):
            chooser = dict(key)
            self.assertIsNone(self.told(4, chooser, offices[key]))
            other = changed(rand, chooser)
            self.told(4, other, offices.get(as_key(other)))

    def test_five_and_six(self):
        for people, many in ((5, 20), (6, 12)):
            rand = random.Random(92)
            for office in some_offices(93, people, many):
                lots = office.book.lots
                chooser = chooser_of(lots, office.order)
                table = plain.table(lots, office.order)
                order = next(order for order in plain.lists(people) if plain.table(lots, order) == table)
                self.told(people, chooser, (lots, order))
                for _ in range(4):
                    other = changed(rand, chooser)
                    self.told(people, other, self.office_by_words(people, other))

    def office_by_words(self, people, chooser):
        """The lots and the least list of what lets in just these, or None."""
        lots = tuple(sorted(least(chooser)))
        if any(len(lot) < 2 or len(plain.left(lot, chooser[lot])) != 1 for lot in lots):
            return None
        table = tuple(plain.left(lot, chooser[lot])[0] for lot in lots)
        for order in plain.lists(people):
            if plain.table(lots, order) == table:
                return (lots, order) if chooser_of(lots, order) == chooser else None
        return None

    def test_rings_alone(self):
        # Each pair is let in but for one, round and round; the whole crowd as some list would have it.
        chooser = {(): (), (0,): (0,), (1,): (1,), (2,): (2,), (0, 1): (0,), (1, 2): (1,), (0, 2): (2,)}
        for whole in ((0,), (1,), (2,), (0, 1), (0, 2), (1, 2), (0, 1, 2), ()):
            bar = self.told(3, {**chooser, (0, 1, 2): whole}, None)
            self.accepts(is_bar_to_offices, 3, {**chooser, (0, 1, 2): whole}, ("ring", (0, 1, 2)))
            self.assertIn(bar[0], KINDS)

    def test_outcomes(self):
        for office in some_offices(94, 6, 10) + some_offices(95, 1, 1) + some_offices(96, 2, 2):
            people = office.book.people
            chooser = outcomes(office)
            self.accepts(is_chooser, people, chooser)
            self.assertEqual(outcomes(office_of(people, chooser)), chooser)
            self.assertEqual(office_of(people, chooser).book, office.book)
            self.assertLessEqual(office_of(people, chooser).order, office.order)
            self.assertIsNone(bar_to_offices(people, chooser))

    def test_one_and_six(self):
        self.assertEqual(office_of(1, {(): (), (0,): (0,)}), Office(Book(1, ()), (0,)))
        self.assertIsNone(office_of(1, {(): (), (0,): ()}))
        self.assertEqual(bar_to_offices(1, {(): (), (0,): ()}), ("alone", 0))
        whole = {crowd: crowd for crowd in plain.crowds(6)}
        self.assertEqual(office_of(6, whole), Office(Book(6, ()), (0, 1, 2, 3, 4, 5)))
        triples = chooser_of(tuple(combinations(range(6), 3)), (3, 1, 5, 0, 2, 4))
        found = office_of(6, triples)
        self.assertEqual(found.book.lots, tuple(combinations(range(6), 3)))
        self.assertEqual(found.order, (1, 3, 5, 0, 2, 4))


class BarTest(Checks, unittest.TestCase):
    def judged(self, people, chooser, bars):
        """Checks all bars there are; returns the kinds of the right ones."""
        kinds = set()
        for bar in bars:
            wanted = is_right_bar(chooser, bar)
            self.same_flag(wanted, is_bar_to_offices(people, chooser, bar), chooser, bar)
            if wanted:
                kinds.add(bar[0])
        return kinds

    def test_going_through(self):
        rand = random.Random(97)
        for people, many in ((1, 2), (2, 16), (3, 300)):
            offices = all_offices(people)
            bars = all_bars(people)
            for chooser in rand.sample(all_choosers(people), many):
                kinds = self.judged(people, chooser, bars)
                self.assertEqual(kinds == set(), as_key(chooser) in offices, chooser)

    def test_near_offices(self):
        rand = random.Random(98)
        found = set()
        bars = all_bars(4)
        for office in some_offices(99, 4, 24):
            chooser = chooser_of(office.book.lots, office.order)
            self.assertEqual(self.judged(4, chooser, bars), set())
            found |= self.judged(4, changed(rand, chooser), bars)
            found |= self.judged(4, changed(rand, changed(rand, chooser)), bars)
        self.assertEqual(found, set(KINDS))

    def test_long_rings(self):
        # Pairs in a row round four people: everybody is let in ahead of the next one, the last ahead of the first.
        row = (0, 2, 1, 3)
        chooser = {crowd: crowd for crowd in plain.crowds(4)}
        for k in range(4):
            pair = tuple(sorted((row[k - 1], row[k])))
            for crowd in chooser:
                if plain.within(pair, crowd) and row[k] in chooser[crowd]:
                    chooser[crowd] = plain.left(chooser[crowd], (row[k],))
        self.accepts(is_chooser, 4, chooser)
        for turn in range(4):
            self.accepts(is_bar_to_offices, 4, chooser, ("ring", row[turn:] + row[:turn]))
            self.refuses(is_bar_to_offices, 4, chooser, things=[("ring", (row[turn:] + row[:turn])[::-1])])
            self.refuses(is_bar_to_offices, 4, chooser, things=[("ring", row[turn + 1:]), ("ring", row[:turn])])
        self.refuses(is_bar_to_offices, 4, chooser, things=[("ring", list(row)), ("ring", row + row)])

    def wrong_ones(self, people, chooser, right, wrong):
        self.accepts(is_bar_to_offices, people, chooser, right)
        things = [list(right), right[:-1], right + (0,), (right[0].upper(),) + right[1:], (None,) + right[1:],
                  (right[0].encode(),) + right[1:], right[:-1] + (None,), right[:-1] + ([],), right[:-1] + ({},),
                  right[1:], (right,), ("some",) + right[1:], (("x",),) + right[1:]]
        self.refuses(is_bar_to_offices, people, chooser, things=things + wrong + strange())

    def test_alone(self):
        chooser = {(): (), (0,): (0,), (1,): (), (0, 1): (0, 1)}
        self.wrong_ones(2, chooser, ("alone", 1), [
            ("alone", 0), ("alone", True), ("alone", (1,)), ("alone", 2), ("alone", -1), ("alone", "1"), ("many", (0, 1)),
            ("many", (1,)), ("many", 1), ("out", (0, 1), 1), ("lot", (0, 1), (1,)), ("ring", (0, 1)), ("ring", (1,)),
            ("alone", 10 ** 59), ("alone", (1,), 1)])
        self.accepts(is_bar_to_offices, 2, chooser, ("out", (1,), 1))

    def test_many(self):
        chooser = {crowd: crowd for crowd in plain.crowds(3)}
        chooser[(0, 1)] = ()
        chooser[(0, 1, 2)] = (2,)
        self.wrong_ones(3, chooser, ("many", (0, 1)), [
            ("many", [0, 1]), ("many", (1, 0)), ("many", (0, True)), ("many", (False, True)), ("many", (0, 1, 2)),
            ("many", (0, 2)), ("many", ()), ("many", (0,)), ("many", 0), ("many", (0, 3)), ("many", (0, 0)),
            ("many", ("0", "1")), ("alone", 0), ("lot", (0, 1), (0, 1)), ("ring", (0, 1)), ("ring", (1, 0))])
        self.accepts(is_bar_to_offices, 3, chooser, ("out", (0, 1), 0))
        self.accepts(is_bar_to_offices, 3, chooser, ("out", (0, 1, 2), 1))
        # A least crowd from which just one is out is no bar, and one from which three are is.
        chooser = {crowd: crowd for crowd in plain.crowds(3)}
        self.refuses(is_bar_to_offices, 3, {**chooser, (0, 1, 2): (1, 2)}, things=[("many", (0, 1, 2))])
        self.accepts(is_bar_to_offices, 3, {**chooser, (0, 1, 2): ()}, ("many", (0, 1, 2)))
        self.accepts(is_bar_to_offices, 3, {**chooser, (0, 1, 2): (1,)}, ("many", (0, 1, 2)))

    def test_ring(self):
        chooser = {(): (), (0,): (0,), (1,): (1,), (2,): (2,), (0, 1): (0,), (1, 2): (1,), (0, 2): (2,),
                   (0, 1, 2): (0,)}
        self.wrong_ones(3, chooser, ("ring", (0, 1, 2)), [
            ("ring", [0, 1, 2]), ("ring", (2, 1, 0)), ("ring", (0, 1)), ("ring", (0, 1, 2, 0)), ("ring", (0, 1, 2, 0, 1, 2)),
            ("ring", (0, True, 2)), ("ring", (False, 1, 2)), ("ring", (0, 1, 3)), ("ring", ()), ("ring", (0,)),
            ("ring", ("0", "1", "2")), ("ring", (0, 1, 2), 0), ("ring", 0), ("ring", (0, 1, -1)), ("many", (0, 1)),
            ("lot", (0, 1, 2), (0, 1)), ("ring", (1, 0))])
        for right in ((1, 2, 0), (2, 0, 1)):
            self.accepts(is_bar_to_offices, 3, chooser, ("ring", right))

    def test_lot(self):
        chooser = {crowd: crowd for crowd in plain.crowds(3)}
        chooser[(0, 1)] = (0,)
        self.wrong_ones(3, chooser, ("lot", (0, 1, 2), (0, 1)), [
            ("lot", [0, 1, 2], (0, 1)), ("lot", (0, 1, 2), [0, 1]), ("lot", (0, 1, 2), (0, 2)), ("lot", (0, 1), (0, 1)),
            ("lot", (0, 1, 2), (0, True)), ("lot", (0, True, 2), (0, 1)), ("lot", (0, 1, 2), (1, 0)), ("lot", (0, 1, 2), 0),
            ("lot", (2, 1, 0), (0, 1)), ("lot", (0, 1, 2), (0,)), ("lot", (0, 1, 2), ()), ("lot", (0, 1, 2), (0, 1, 2)),
            ("lot", (0, 1, 2, 3), (0, 1)), ("lot", (0, 1, 2)), ("lot", 0, (0, 1)), ("lot", None, (0, 1)),
            ("lot", (0, 1, 2), ("0", "1")), ("out", (0, 1), 1), ("lot", (0, 1, 1, 2), (0, 1))])

    def test_lot_of_one(self):
        # A least crowd of one is no lot, though let in elsewhere.
        chooser = {(): (), (0,): (), (1,): (1,), (0, 1): (0, 1)}
        self.refuses(is_bar_to_offices, 2, chooser, things=[("lot", (0, 1), (0,)), ("lot", (0, 1), (0, 1))])

    def test_out(self):
        chooser = {crowd: crowd for crowd in plain.crowds(3)}
        chooser[(0, 1)] = (0,)
        chooser[(0, 1, 2)] = (0,)
        self.wrong_ones(3, chooser, ("out", (0, 1, 2), 2), [
            ("out", (0, 1, 2), 1), ("out", (0, 1, 2), 0), ("out", [0, 1, 2], 2), ("out", (0, 1, 2), True),
            ("out", (0, 1, 2), "2"), ("out", (0, 1, 2), (2,)), ("out", (0, 1, 2), 3), ("out", (0, 1, 2), -1),
            ("out", (2, 1, 0), 2), ("out", (0, True, 2), 2), ("out", (0, 1), 2), ("out", (0, 1), 1), ("out", (), 2),
            ("out", (0, 1, 2)), ("out", (0, 1, 2, 3), 2), ("out", 0, 2), ("out", (0, 1, 2), 10 ** 59)])
        # Somebody is out by no lot who is the last of none that is let in but for this one.
        chooser[(0, 1, 2)] = (2,)
        self.accepts(is_bar_to_offices, 3, chooser, ("out", (0, 1, 2), 1))
        self.accepts(is_bar_to_offices, 3, chooser, ("out", (0, 1, 2), 0))
        self.refuses(is_bar_to_offices, 3, {**chooser, (0, 1, 2): (0, 2)}, things=[("out", (0, 1, 2), 1)])
        chooser = {crowd: crowd for crowd in plain.crowds(3)}
        chooser[(0, 1)] = (1,)
        chooser[(0, 1, 2)] = (0, 2)
        self.refuses(is_bar_to_offices, 3, chooser, things=[("out", (0, 1, 2), False), ("out", (0, 1, 2), 2)])
        self.accepts(is_bar_to_offices, 3, chooser, ("out", (0, 1, 2), 1))
        self.refuses(is_bar_to_offices, 3, chooser, things=[("out", (0, 1, 2), True)])

    def test_office_has_none(self):
        for office in some_offices(100, 5, 6):
            chooser = outcomes(office)
            self.refuses(is_bar_to_offices, 5, chooser, things=strange() + all_bars(4))


def wrong_choosers(people, right):
    """Things that are no chooser, most of them near to one."""
    every = plain.crowds(people)
    found = strange() + [list(right.items()), tuple(right.items()), {**right, (people,): ()}, {**right, None: ()},
                         {**right, (0, 0): ()}, {**right, "x": ()}, {**right, ((0,),): ()}]
    for crowd in every:
        less = {key: right[key] for key in right if key != crowd}
        found += [less, {**less, (people,): ()}, {**less, crowd + (people,): crowd}, {**less, str(crowd): crowd},
                  {**less, None: crowd}]
        for thing in (None, 0, True, list(crowd), [], {}, "", (people,), crowd + (people,), (0, 0), (-1,), crowd * 2 or (0,),
                      tuple(map(str, crowd)) or "", (None,), (crowd,), tuple(map(bool, crowd)) or (False,),
                      crowd[::-1] if len(crowd) > 1 else None, {key: True for key in crowd}, Book(people, ())):
            found.append({**right, crowd: thing})
        for person in range(people):
            if person not in crowd:
                found += [{**right, crowd: (person,)}, {**right, crowd: plain.joined(crowd, (person,))}]
    return found


class ChooserTest(Checks, unittest.TestCase):
    def test_right_ones(self):
        for people in (1, 2, 3):
            for chooser in all_choosers(people)[::7]:
                self.accepts(is_chooser, people, chooser)
        rand = random.Random(101)
        for people in range(1, 7):
            for _ in range(4):
                chooser = {crowd: rand.choice(within(crowd)) for crowd in plain.crowds(people)}
                self.accepts(is_chooser, people, chooser)
                turned = {crowd: chooser[crowd] for crowd in list(chooser)[::-1]}
                self.accepts(is_chooser, people, turned)
                self.assertEqual(bar_to_offices(people, chooser) is None, office_of(people, turned) is not None)

    def test_other_people(self):
        for people in range(1, 7):
            whole = {crowd: crowd for crowd in plain.crowds(people)}
            for other in range(1, 7):
                self.same_flag(people == other, is_chooser(other, whole))
                if people != other:
                    self.raises(NoChooser, office_of, other, whole)
                    self.raises(NoChooser, bar_to_offices, other, whole)
                    self.raises(NoChooser, is_bar_to_offices, other, whole, ("alone", 0))

    def test_wrong_ones(self):
        for people, lots in ((1, ()), (2, ((0, 1),)), (3, ((0, 1), (1, 2)))):
            right = chooser_of(lots, tuple(range(people)))
            self.accepts(is_chooser, people, right)
            for wrong in wrong_choosers(people, right):
                told = repr(wrong)[:200]
                self.assertIs(is_chooser(people, wrong), False, told)
                self.raises(NoChooser, office_of, people, wrong)
                self.raises(NoChooser, bar_to_offices, people, wrong)
                self.raises(NoChooser, is_bar_to_offices, people, wrong, ("alone", 0))
                self.raises(NoChooser, is_bar_to_offices, people, wrong, None)

    def test_flags_let_in(self):
        right = {(): (), (0,): (0,), (1,): (1,), (0, 1): (0, 1)}
        for crowd, thing in (((0,), (False,)), ((1,), (True,)), ((0, 1), (False, True)), ((0, 1), (0, True))):
            self.same_flag(False, is_chooser(2, {**right, crowd: thing}))
            self.raises(NoChooser, office_of, 2, {**right, crowd: thing})

    def test_no_people(self):
        whole = {crowd: crowd for crowd in plain.crowds(1)}
        for wrong in NO_PEOPLE:
            for thing in (whole, {}, None):
                self.raises(NoPeople, is_chooser, wrong, thing)
                self.raises(NoPeople, office_of, wrong, thing)
                self.raises(NoPeople, bar_to_offices, wrong, thing)
                self.raises(NoPeople, is_bar_to_offices, wrong, thing, ("alone", 0))
        seven = {crowd: crowd for crowd in plain.crowds(7)}
        self.raises(NoPeople, is_chooser, 7, seven)
        self.raises(NoPeople, office_of, 7, seven)

    def test_chooser_stays(self):
        chooser = chooser_of(((0, 1), (1, 2)), (0, 1, 2))
        before = copy.deepcopy(chooser)
        found = office_of(3, chooser)
        self.assertEqual(chooser, before)
        chooser[(0, 1)] = ()
        self.assertEqual(found, Office(Book(3, ((0, 1), (1, 2))), (0, 1, 2)))

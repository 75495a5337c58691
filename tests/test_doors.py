"""A door that is led deed by deed (18.1)."""

import copy
import random
import unittest
from itertools import combinations

from lastoflot.books import Book
from lastoflot.doors import Door
from lastoflot.errors import IsThere, NoLot, NoPerson, NoPlace, NothingDone, NotThere, TooMany
from lastoflot.offices import Office
from tests import plain
from tests.plain import Checks, strange

ROW = Office(Book(3, ((0, 1), (1, 2))), (0, 1, 2))
FULL = Book(12, tuple(combinations(range(12), 2))[:60])


class Halt(Exception):
    """An error that is no error of the package."""


class PlainDoor:
    """All states so far, each a triple of the lots, the list and those who are there."""

    def __init__(self, office):
        self.people = office.book.people
        self.states = [(office.book.lots, office.order, ())]

    def copy(self):
        return copy.deepcopy(self)

    def inside(self, at=-1):
        return plain.let_in(*self.states[at])

    def news(self):
        if len(self.states) == 1:
            return ((), ())
        now, before = self.inside(), self.inside(-2)
        return (plain.left(now, before), plain.left(before, now))

    def wrong(self, deed, values):
        """The error that a deed raises by the words of the point, with its fields, or None."""
        lots, _, there = self.states[-1]
        if deed == "back":
            return (NothingDone, {}) if len(self.states) == 1 else None
        if deed == "bar":
            lot = values[0]
            if not plain.is_plain_crowd(self.people, lot) or len(lot) < 2 or not plain.is_clear(lots, lot):
                return (NoLot, {})
            return (TooMany, {"most": 60}) if len(plain.least_ones((*lots, lot))) > 60 else None
        if not self.is_person(values[0]):
            return (NoPerson, {})
        if deed == "come" and values[0] in there:
            return (IsThere, {})
        if deed == "leave" and values[0] not in there:
            return (NotThere, {})
        if deed == "move" and not self.is_person(values[1]):
            return (NoPlace, {})
        return None

    def is_person(self, thing):
        return plain.is_plain_number(thing) and 0 <= thing < self.people

    def do(self, deed, values):
        lots, order, there = self.states[-1]
        if deed == "back":
            self.states.pop()
        elif deed == "bar":
            self.states.append((plain.least_ones((*lots, values[0])), order, there))
        elif deed == "come":
            self.states.append((lots, order, plain.joined(there, values)))
        elif deed == "leave":
            self.states.append((lots, order, plain.left(there, values)))
        else:
            others = [person for person in order if person != values[0]]
            others.insert(values[1], values[0])
            self.states.append((lots, tuple(others), there))


def random_deed(rand, people):
    """A deed and its arguments, now and then wrong ones."""
    deed = rand.choice(("come", "come", "come", "leave", "leave", "move", "move", "bar", "back", "back"))
    persons = list(range(people)) * 4 + [-1, people, None, True]
    if deed == "back":
        return deed, ()
    if deed == "bar":
        crowd = tuple(sorted(rand.sample(range(people), min(people, rand.choice((1, 2, 2, 3, 4))))))
        return deed, (rand.choice([crowd] * 6 + [list(crowd), None, crowd + (people,)]),)
    return deed, tuple(rand.choice(persons) for _ in range(2 if deed == "move" else 1))


class DoorTest(Checks, unittest.TestCase):
    def same(self, door, wanted):
        """Checks all that a door tells."""
        lots, order, there = wanted.states[-1]
        inside = wanted.inside()
        self.assertEqual(door.there(), there)
        self.assertEqual(door.inside(), inside)
        self.assertEqual(door.outside(), plain.left(there, inside))
        self.assertEqual(door.office(), Office(Book(wanted.people, lots), order))
        self.assertEqual(door.news(), wanted.news())
        self.assertEqual(door.deeds(), len(wanted.states) - 1)

    def do(self, door, wanted, deed, values):
        """Does a deed with both, an error being the right one; returns whether there was one."""
        error = wanted.wrong(deed, values)
        if error is not None:
            self.raises(error[0], getattr(door, deed), *values, **error[1])
            return True
        self.assertIsNone(getattr(door, deed)(*values))
        wanted.do(deed, values)
        return False

    def some_offices(self):
        return plain.some_offices(1, 241) + [ROW] + plain.great_offices(242) + [Office(FULL, tuple(range(12)))]


class LedTest(DoorTest):
    def test_drawn_deeds(self):
        rand = random.Random(243)
        errors = deeds = 0
        for office in self.some_offices():
            door, wanted = Door(office), PlainDoor(office)
            self.same(door, wanted)
            for _ in range(40):
                wrong = self.do(door, wanted, *random_deed(rand, wanted.people))
                self.same(door, wanted)
                errors += wrong
                deeds += not wrong
            while door.deeds():
                self.do(door, wanted, "back", ())
                self.same(door, wanted)
            self.assertEqual(door.office(), office)
            self.assertEqual(door.there(), ())
            self.raises(NothingDone, door.back)
        self.assertGreater(errors, 300)
        self.assertGreater(deeds, 600)

    def test_named(self):
        door = Door(ROW)
        self.assertEqual((door.there(), door.inside(), door.outside(), door.news(), door.deeds()), ((), (), (), ((), ()), 0))
        door.come(2)
        door.come(1)
        self.assertEqual((door.there(), door.inside(), door.outside(), door.news()), ((1, 2), (1,), (2,), ((1,), (2,))))
        door.come(0)
        self.assertEqual((door.inside(), door.outside(), door.news()), ((0, 2), (1,), ((0, 2), (1,))))
        door.move(1, 0)
        self.assertEqual((door.inside(), door.news(), door.office().order), ((1,), ((1,), (0, 2)), (1, 0, 2)))
        door.leave(1)
        self.assertEqual((door.inside(), door.news(), door.there()), ((0, 2), ((0, 2), (1,)), (0, 2)))
        door.bar((0, 2))
        self.assertEqual((door.inside(), door.news(), door.deeds()), ((0,), ((), (2,)), 6))
        self.assertEqual(door.office(), Office(Book(3, ((0, 1), (0, 2), (1, 2))), (1, 0, 2)))

    def test_one_who_leaves_is_news(self):
        door = Door(ROW)
        door.come(0)
        self.assertEqual(door.news(), ((0,), ()))
        door.leave(0)
        self.assertEqual(door.news(), ((), (0,)))

    def test_news_behind_back(self):
        door = Door(ROW)
        door.come(1)
        door.come(0)
        door.come(2)
        self.assertEqual(door.news(), ((2,), ()))
        door.back()
        self.assertEqual(door.news(), ((0,), (1,)))
        door.back()
        self.assertEqual(door.news(), ((1,), ()))
        door.back()
        self.assertEqual(door.news(), ((), ()))
        self.raises(NothingDone, door.back)
        self.assertEqual(door.news(), ((), ()))

    def test_move_where_nothing_changes(self):
        door = Door(ROW)
        door.move(1, 1)
        self.assertEqual((door.deeds(), door.office(), door.news()), (1, ROW, ((), ())))
        door.come(1)
        door.move(1, 1)
        self.assertEqual((door.deeds(), door.news()), (3, ((), ())))
        door.back()
        self.assertEqual((door.deeds(), door.news()), (2, ((1,), ())))
        door.back()
        door.back()
        self.raises(NothingDone, door.back)

    def test_bar_takes_lots_away(self):
        door = Door(Office(Book(4, ((0, 1, 2), (0, 1, 3), (2, 3))), (3, 2, 1, 0)))
        door.bar((0, 1))
        self.assertEqual(door.office(), Office(Book(4, ((0, 1), (2, 3))), (3, 2, 1, 0)))
        door.back()
        self.assertEqual(door.office().book.lots, ((0, 1, 2), (0, 1, 3), (2, 3)))

    def test_many_deeds(self):
        door = Door(ROW)
        for _ in range(1500):
            door.come(1)
            door.leave(1)
        self.assertEqual(door.deeds(), 3000)
        for _ in range(3000):
            door.back()
        self.raises(NothingDone, door.back)

    def test_kinds_of_results(self):
        door = Door(ROW)
        for call in (door.there, door.inside, door.outside, door.news):
            self.assertIsInstance(call(), tuple)
        self.assertIsInstance(door.office(), Office)
        self.assertIsInstance(door.copy(), Door)
        self.assertFalse(door == ROW)
        self.assertFalse(ROW == door)
        for name in ("come", "leave", "move", "bar", "there", "inside", "outside", "office", "news", "back", "deeds", "copy",
                     "trying"):
            self.assertIn(name, vars(Door))


class ErrorTest(DoorTest):
    def led(self):
        door = Door(ROW)
        for person in (1, 0):
            door.come(person)
        door.move(2, 0)
        return door

    def seen(self, door):
        return (door.there(), door.inside(), door.outside(), door.office(), door.news(), door.deeds())

    def unchanged(self, kind, deed, *values, **fields):
        door = self.led()
        before = self.seen(door)
        self.raises(kind, getattr(door, deed), *values, **fields)
        self.assertEqual(self.seen(door), before)
        for _ in range(3):
            door.back()
        self.raises(NothingDone, door.back)
        self.assertEqual(door.office(), ROW)

    def test_no_person(self):
        for wrong in plain.bad_persons(3):
            self.unchanged(NoPerson, "come", wrong)
            self.unchanged(NoPerson, "leave", wrong)
            for place in (0, None, 3):
                self.unchanged(NoPerson, "move", wrong, place)

    def test_there_or_not(self):
        self.unchanged(IsThere, "come", 0)
        self.unchanged(IsThere, "come", 1)
        self.unchanged(NotThere, "leave", 2)
        self.unchanged(NoPerson, "come", True)
        self.unchanged(NoPerson, "leave", False)

    def test_no_place(self):
        for wrong in plain.bad_persons(3):
            for person in (0, 2):
                self.unchanged(NoPlace, "move", person, wrong)

    def test_no_lot(self):
        for wrong in plain.bad_crowds(3) + [(), (1,), (0, 1), (1, 2), (0, 1, 2), [0, 2], (2, 0), (False, 2)]:
            self.unchanged(NoLot, "bar", wrong)

    def test_sixty(self):
        door = Door(Office(FULL, tuple(range(12))))
        door.come(11)
        before = self.seen(door)
        for lot in ((10, 11), (9, 10, 11), (8, 9, 10, 11)):
            if plain.is_clear(FULL.lots, lot):
                self.raises(TooMany, door.bar, lot, most=60)
            else:
                self.raises(NoLot, door.bar, lot)
            self.assertEqual(self.seen(door), before)
        for lot in ((0, 1), (0, 1, 11), None, (11,)):
            self.raises(NoLot, door.bar, lot)
            self.assertEqual(self.seen(door), before)

    def test_nothing_done(self):
        door = Door(ROW)
        self.raises(NothingDone, door.back)
        self.raises(IsThere, self.led().come, 1)
        door.come(1)
        self.raises(IsThere, door.come, 1)
        door.back()
        self.raises(NothingDone, door.back)
        self.assertEqual(self.seen(door), self.seen(Door(ROW)))


class CopyTest(DoorTest):
    def test_go_on_apart(self):
        rand = random.Random(244)
        for office in self.some_offices():
            doors = [(Door(office), PlainDoor(office))]
            for _ in range(30):
                door, wanted = rand.choice(doors)
                if len(doors) < 4 and rand.random() < 0.2:
                    doors.append((door.copy(), wanted.copy()))
                else:
                    self.do(door, wanted, *random_deed(rand, wanted.people))
                for door, wanted in doors:
                    self.same(door, wanted)
            for door, wanted in doors:
                while door.deeds():
                    self.do(door, wanted, "back", ())
                    self.same(door, wanted)
                self.raises(NothingDone, door.back)

    def test_named(self):
        door = Door(ROW)
        door.come(1)
        other = door.copy()
        self.assertIsNot(other, door)
        other.come(0)
        self.assertEqual((door.there(), other.there(), door.deeds(), other.deeds()), ((1,), (0, 1), 1, 2))
        self.assertEqual((door.news(), other.news()), (((1,), ()), ((0,), (1,))))
        door.back()
        self.raises(NothingDone, door.back)
        other.back()
        other.back()
        self.assertEqual(other.there(), ())
        self.raises(NothingDone, other.back)


class TryingTest(DoorTest):
    def tried(self, action, result=None, error=None):
        """Checks that all is as it was behind an action, for doors with and without deeds."""
        rand = random.Random(245)
        for office in self.some_offices()[::2] + [ROW]:
            door, wanted = Door(office), PlainDoor(office)
            for _ in range(rand.choice((0, 1, 9))):
                self.do(door, wanted, *random_deed(rand, wanted.people))
            if error is None:
                self.assertEqual(door.trying(action), result)
            else:
                with self.assertRaises(error) as caught:
                    door.trying(action)
                self.assertIs(caught.exception.__class__, error)
            self.same(door, wanted)
            for _ in range(6):
                self.do(door, wanted, *random_deed(rand, wanted.people))
                self.same(door, wanted)
            while door.deeds():
                self.do(door, wanted, "back", ())
                self.same(door, wanted)

    def deeds(self, door, seed=246, many=12):
        """Drawn deeds, those left out that are wrong."""
        rand = random.Random(seed)
        for _ in range(many):
            deed, values = random_deed(rand, door.office().book.people)
            try:
                getattr(door, deed)(*values)
            except ValueError:
                pass

    def test_deeds(self):
        self.tried(self.deeds)
        self.tried(lambda door: self.deeds(door, 247, 60))
        self.tried(lambda door: door.move(0, 0))
        self.tried(lambda door: None)

    def test_result(self):
        made = []

        def action(door):
            made.append(door)
            return made

        door = Door(ROW)
        self.assertIs(door.trying(action), made)
        self.assertIs(made[0], door)
        for thing in strange()[:30]:
            self.assertIs(door.trying(lambda other, wanted=thing: wanted), thing)
        self.assertEqual(door.trying(lambda other: (other.come(1), other.inside(), other.deeds())), (None, (1,), 1))
        self.assertEqual((door.there(), door.deeds()), ((), 0))

    def test_error_of_its_own(self):
        def action(door):
            self.deeds(door)
            raise Halt()

        self.tried(action, error=Halt)

        def other(door):
            self.deeds(door)
            door.come(None)

        self.tried(other, error=NoPerson)
        self.tried(lambda door: 1 // 0, error=ZeroDivisionError)

    def test_same_error_goes_on(self):
        halt = Halt()

        def action(door):
            door.come(0)
            raise halt

        door = Door(ROW)
        with self.assertRaises(Halt) as caught:
            door.trying(action)
        self.assertIs(caught.exception, halt)
        self.assertEqual((door.there(), door.deeds()), ((), 0))

    def test_takes_deeds_back(self):
        def action(door):
            while door.deeds():
                door.back()
            return door.there()

        self.tried(action, ())

        def other(door):
            action(door)
            self.deeds(door)
            action(door)
            door.move(0, 0)

        self.tried(other)

        def last(door):
            action(door)
            door.back()

        self.tried(last, error=NothingDone)

    def test_copies_within(self):
        doors = []

        def action(door):
            self.deeds(door)
            other = door.copy()
            doors.append((other, (other.there(), other.office(), other.deeds(), other.news())))
            self.deeds(door, 248)
            self.deeds(door.copy(), 249)

        self.tried(action)
        for door, seen in doors:
            self.assertEqual((door.there(), door.office(), door.deeds(), door.news()), seen)
            for _ in range(seen[2]):
                door.back()
            self.raises(NothingDone, door.back)

    def test_trying_within(self):
        def inner(door):
            self.deeds(door, 250)
            while door.deeds():
                door.back()
            raise Halt()

        def outer(door):
            self.deeds(door, 251)
            before = (door.there(), door.office(), door.deeds(), door.news())
            with self.assertRaises(Halt):
                door.trying(inner)
            self.assertEqual((door.there(), door.office(), door.deeds(), door.news()), before)
            self.assertEqual(door.trying(lambda other: other.trying(lambda one: self.deeds(one)) or 7), 7)
            self.assertEqual((door.there(), door.office(), door.deeds(), door.news()), before)
            door.move(0, 0)
            return door.deeds() - before[2]

        self.tried(outer, 1)

    def test_copy_tries_apart(self):
        door = Door(ROW)
        door.come(1)
        other = door.copy()
        self.assertEqual(other.trying(lambda one: (one.come(0), door.come(2), one.there())), (None, None, (0, 1)))
        self.assertEqual((door.there(), door.deeds(), other.there(), other.deeds()), ((1, 2), 2, (1,), 1))

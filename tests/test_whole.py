"""What the document promises over the whole program (Part 0): arguments, results, errors, for each function."""

import copy
import importlib
import inspect
import random
import unittest

from lastoflot import errors
from lastoflot.books import Book
from lastoflot.desk import Desk
from lastoflot.doors import Door
from lastoflot.kinds import Kinds
from lastoflot.offices import Office, outcomes
from tests.plain import Checks, strange
from tests.test_interface import CLASSES, INTERFACE, parts

B = Book(4, ((0, 1), (1, 2), (2, 3)))
O = Office(B, (0, 1, 2, 3))
S = Office(Book(4, ((0, 1), (0, 2, 3))), (0, 1, 2, 3))
K = Kinds(2, ((0, 3), (1, 1)))
C = Kinds(2, ((0, 2), (2, 0)))
ALL = (0, 1, 2, 3)
SEEN = [(ALL, (0, 2)), ((1, 2), (1,))]
UNSEEN = [((0, 1), (0,)), ((1, 2), (1,)), ((0, 1), (1,))]
RULES = [("both", 0, 1), ("all", (1, 2, 3)), ("most", 1, (0, 2)), ("without", 3, (0, 1))]
CHOOSER = outcomes(Office(Book(2, ((0, 1),)), (1, 0)))
NO_CHOOSER = {(): (), (0,): (0,), (1,): (), (0, 1): (0,)}
HALLS = [O, S]
TREE = (0, 1, ("told", (1,)), ("told", (0,)))
# For each function the errors that its point names, and arguments that are right.
CALLS = {
    "is_clear": ("", [(B, (0, 2))]),
    "book_of": ("NoPeople NoHeaps TooMany", [(4, [(0, 1), (0, 1, 2)])]),
    "bases": ("NoCrowd", [(B, ALL)]),
    "keeps": ("NoPeople NoRules NoCrowd", [(4, RULES, (0, 2))]),
    "lots_by": ("NoPeople NoRules TooMany", [(4, RULES)]),
    "lasts": ("", [(O,)]), "let_in": ("NoCrowd", [(O, ALL)]), "out": ("NoCrowd", [(O, ALL)]),
    "from_below": ("NoCrowd", [(O, ALL)]), "reasons": ("NoCrowd", [(O, ALL)]), "outcomes": ("TooMany", [(O,)]),
    "is_reason": ("NoCrowd NoPerson", [(O, ALL, 1, (0, 1))]),
    "alike": ("OtherPeople", [(O, S)]), "is_steps": ("OtherBook", [(O, O, ())]), "parting": ("OtherPeople", [(O, S)]),
    "exchanged": ("NoPlace", [(O, 1)]), "steps": ("OtherBook", [(S, Office(S.book, (0, 1, 3, 2)))]),
    "many_fellows": ("", [(O,)]), "fellow_number": ("NoList", [(S, (0, 1, 2, 3))]), "fellow_at": ("NoNumber", [(S, 0)]),
    "bound_pairs": ("", [(S,)]), "may_stand": ("NoPerson", [(S, 1)]),
    "list_for": ("NoTable", [(B, (1, 2, 3))]), "ring_of": ("NoTable", [(Book(3, ((0, 1), (0, 2), (1, 2))), (0, 2, 1))]),
    "is_ring": ("NoTable", [(B, (1, 2, 3), (0, 1))]), "lists_with": ("NoTable", [(B, (1, 2, 3))]),
    "many_tables": ("TooMany", [(B,)]), "all_tables": ("TooMany", [(B,)]), "least_lists": ("TooMany", [(B,)]),
    "steady": ("", [(O,)]), "is_thirds": ("", [(S, {})]), "is_recall": ("", [(O, ((1, 2), 0, 2))]),
    "is_last_in": ("", [(O, (ALL, 1))]), "is_below_unlike": ("", [(O, ALL)]), "clash_pairs": ("", [(O,)]),
    "third_of": ("NoPair", [(O, (0, 1))]), "thirds": ("", [(O,), (S,)]), "clash": ("", [(O,)]), "last_in": ("", [(O,)]),
    "recall": ("", [(O,)]), "below_unlike": ("", [(O,)]),
    "always_steady": ("", [(B,)]), "is_unsteady_list": ("", [(B, ALL)]), "spare": ("", [(B,)]),
    "unsteady_list": ("", [(B,)]),
    "hopeful": ("TooMany NoCrowd", [(O, (1, 2))]), "fullest": ("TooMany", [(O,)]), "places": ("TooMany", [(O,)]),
    "bringers": ("TooMany NoCrowd NoPerson", [(O, (1, 2), 2)]), "crowded": ("TooMany NoNumber", [(O, 0), (S, 0)]),
    "is_crowded": ("NoNumber", [(O, 0, ((1, 2), {2: (0,)}))]), "kept": ("TooMany NoRow", [(O, (2, 1, 0))]),
    "wrong_row": ("TooMany NoNumber", [(O, 1, lambda row: ((), ()))]),
    "is_fitting": ("NoSightings", [(B, SEEN, ALL)]), "fitting": ("NoSightings", [(B, SEEN)]),
    "is_bar_to_lists": ("NoSightings", [(B, UNSEEN, ("heap", (0, 1), (2, 0)))]),
    "bar_to_lists": ("NoSightings", [(B, UNSEEN), (B, SEEN)]), "many_fitting": ("NoSightings", [(B, SEEN)]),
    "is_dropped": ("NoSightings TooMany", [(B, UNSEEN, (0,))]), "fewest_dropped": ("NoSightings TooMany", [(B, UNSEEN)]),
    "dropped": ("NoSightings TooMany", [(B, UNSEEN)]),
    "surely_ahead": ("NoSightings NoList", [(B, SEEN)]), "verdicts": ("NoSightings NoCrowd NoList TooMany", [(B, SEEN, ALL)]),
    "parted_by": ("NoSightings NoList TooMany", [(B, SEEN)]),
    "is_chooser": ("NoPeople", [(2, CHOOSER)]), "office_of": ("NoPeople NoChooser", [(2, CHOOSER)]),
    "is_bar_to_offices": ("NoPeople NoChooser", [(2, NO_CHOOSER, ("alone", 1))]),
    "bar_to_offices": ("NoPeople NoChooser", [(2, NO_CHOOSER)]),
    "comer": ("NoCrowd NoPerson", [(O, (1, 2), 0)]), "leaver": ("NoCrowd NoPerson", [(O, ALL, 0)]),
    "touching": ("TooMany", [(O,)]), "most_touched": ("TooMany", [(O,)]), "one_for_one": ("NotSteady", [(S,)]),
    "is_two_for_one": ("NotSteady", [(S, (ALL, 0))]), "two_for_one": ("NotSteady", [(S,)]),
    "lots_for_two": ("NotSteady", [(S,)]),
    "most": ("NoCrowd", [(B, ALL)]), "greatest_clear": ("NoCrowd", [(B, ALL)]), "generous": ("TooMany", [(O,)]),
    "is_stingy": ("TooMany", [(O, ALL)]), "is_fewer": ("TooMany", [(O, (ALL[:3], 3))]), "always_generous": ("", [(B,)]),
    "is_mean_list": ("", [(B, ((1, 0, 2, 3), (0, 1, 2)))]), "stingy": ("TooMany", [(O,)]), "fewer": ("TooMany", [(O,)]),
    "mean_list": ("", [(B,)]), "least_share": ("TooMany", [(O,)]),
    "next_day": ("NoCrowd", [(O, ALL)]), "after": ("NoCrowds", [(O, [ALL, (0, 1)])]), "days": ("NoCrowds", [(O, [ALL, ALL])]),
    "flower": ("NoPerson", [(B, 1)]), "flower_ahead": ("NoPerson", [(O, 1)]), "longest_out": ("NoPerson", [(O, 1)]),
    "is_flower": ("NoPerson", [(B, 1, ((0, 1),))]), "is_out_through": ("NoPerson", [(O, 1, ((0, 1),))]),
    "next_front": ("NoCrowd", [(O, ALL)]), "front_out": ("NoPerson TooMany", [(O, 1)]),
    "is_front_out": ("NoPerson", [(O, 1, ((0, 1),))]),
    "looked": ("NoCrowd NoState NoPerson", [(O, ALL, (1,), 0)]),
    "looked_through": ("NoCrowd NoState NoLooks", [(O, ALL, (1,), (0, 1))]), "most_looks": ("NoCrowd TooMany", [(O, ALL)]),
    "is_quiet": ("NoCrowd", [(O, ALL, (0, 2))]), "is_looks": ("NoCrowd", [(O, ALL, ((), (0,)))]),
    "chances": ("NoCrowd TooMany", [(B, ALL)]), "outcomes_by_lot": ("NoCrowd TooMany", [(B, ALL)]),
    "mean_number": ("NoCrowd TooMany", [(B, ALL)]),
    "asked_least": ("TooMany", [(B,)]), "asking_tree": ("TooMany", [(B,)]),
    "is_asking_tree": ("NoNumber TooMany", [(Book(2, ((0, 1),)), 1, TREE)]),
    "entered": ("NoKinds", [(K, (0, 1, 0))]), "entered_counts": ("NoKinds", [(K, (0, 1))]),
    "counts_after": ("NoKinds NoNumber", [(K, (0, 1), 10 ** 20)]), "unlike_row": ("OtherKinds", [(K, C), (K, K)]),
    "passing_row": ("NoKind", [(K, 0, 1)]), "may_pass": ("NoKind", [(K, 0, 1)]),
    "steady_kinds": ("", [(K,)]), "is_called_back": ("", [(K, ((0, 1), 0, 1))]), "called_back": ("", [(K,)]),
    "steady_table": ("", [(C,)]),
    "seated": ("NoHalls NoCrowd", [(HALLS, ALL)]), "housed": ("NoHalls NoCrowd", [(HALLS, ALL)]),
    "halls_parting": ("NoHalls OtherPeople TooMany", [(HALLS, [S])]), "as_one": ("NoHalls TooMany", [(HALLS,)]),
    "bar_to_one": ("NoHalls TooMany", [(HALLS,)]),
    "with_lot": ("NoLot TooMany", [(B, (0, 2))]), "without_lot": ("NoNumber", [(B, 1)]),
    "raised": ("NoPerson NoPlace", [(O, 2, 0)]), "named": ("NoList", [(O, (3, 1, 2, 0))]),
    "harmed": ("OtherPeople TooMany", [(O, S)]),
    "book_text": ("", [(B,)]), "office_text": ("", [(O,)]),
    "read_book": ("BadText BadBook", [("people 2\n0 1\n",)]),
    "read_office": ("BadText BadBook BadOffice", [("people 2\n0 1\nlist 1 0\n",)]),
    "rules_text": ("NoPeople NoRules", [(4, RULES)]), "read_rules": ("NoPeople BadText", [(4, "not both 0 1\n")]),
}
SURE = ("book", "office", "one", "other", "kinds", "keeper")
OFFICES = [O, S, Office(Book(1, ()), (0,)), Office(Book(12, ((0, 1),)), tuple(range(12)))]


def functions():
    """All functions of the interface, each with its file."""
    found = {}
    for file, text in INTERFACE.items():
        for name, _ in parts(text):
            found[name] = (file, getattr(importlib.import_module("lastoflot." + file), name))
    return found


def free_places(file, call):
    """The numbers of the arguments that may be anything."""
    names = list(inspect.signature(call).parameters)
    return [k for k, name in enumerate(names) if name not in SURE or file == "halls"]


def put(values, k, thing):
    return values[:k] + (thing,) + values[k + 1:]


def has_new_parts(thing):
    """Whether lists or dicts are in a result."""
    return isinstance(thing, (list, dict)) or isinstance(thing, tuple) and any(has_new_parts(item) for item in thing)


class WholeTest(Checks, unittest.TestCase):
    def test_each_function_is_here(self):
        self.assertEqual(set(CALLS), set(functions()))
        self.assertEqual(sum(len(parts(text)) for text in INTERFACE.values()), len(CALLS))

    def test_right_calls(self):
        for name, (_, call) in functions().items():
            for values in CALLS[name][1]:
                before = copy.deepcopy([value for value in values if not callable(value)])
                first = call(*values)
                self.assertEqual([value for value in values if not callable(value)], before, name)
                self.assertEqual(call(*values), first, name)
                if name.startswith("is_"):
                    self.assertIs(first.__class__, bool, name)

    def test_new_lists_and_dicts(self):
        found = set()
        for name, (_, call) in functions().items():
            for values in CALLS[name][1]:
                if has_new_parts(call(*values)):
                    found.add(name)
                    self.is_new(call, *values)
        self.assertEqual(found, {
            "bases", "reasons", "outcomes", "bound_pairs", "may_stand", "all_tables", "least_lists", "clash_pairs", "thirds",
            "crowded", "kept", "surely_ahead", "verdicts", "days", "chances", "outcomes_by_lot", "entered", "seated"})

    def met(self, name, call, values):
        """Calls a function with things of whatever kinds; only the errors that its point names may come of it."""
        named = [getattr(errors, kind) for kind in CALLS[name][0].split()]
        try:
            answer = call(*values)
        except errors.LotError as error:
            self.assertIn(error.__class__, named, (name, repr(values)[:200]))
        else:
            if name.startswith("is_"):
                self.assertIs(answer.__class__, bool, name)

    def test_things_of_every_kind(self):
        for name, (file, call) in functions().items():
            for values in CALLS[name][1]:
                for k in free_places(file, call):
                    for thing in strange():
                        self.met(name, call, put(values, k, thing))

    def test_two_such_things(self):
        rand = random.Random(281)
        for name, (file, call) in functions().items():
            places = free_places(file, call)
            for values in CALLS[name][1]:
                for _ in range(25 if len(places) > 1 else 0):
                    one, other = rand.sample(places, 2)
                    things = rand.sample(strange(), 2)
                    self.met(name, call, put(put(values, one, things[0]), other, things[1]))

    def test_parts_of_every_kind(self):
        # One part of a right argument is anything.
        rand = random.Random(282)
        for name, (file, call) in functions().items():
            for values in CALLS[name][1]:
                for k in free_places(file, call):
                    for thing in strange():
                        self.met(name, call, put(values, k, self.with_part(rand, values[k], thing)))

    def with_part(self, rand, value, thing):
        if isinstance(value, (list, tuple)) and len(value):
            k = rand.randrange(len(value))
            part = self.with_part(rand, value[k], thing) if rand.random() < 0.5 else thing
            return value.__class__([*value[:k], part, *value[k + 1:]])
        if isinstance(value, dict) and value:
            key = rand.choice(list(value))
            return {**value, key: self.with_part(rand, value[key], thing)}
        return thing

    def test_constructors(self):
        for thing in strange():
            for call, kind in ((lambda: Book(thing, ()), errors.BadBook), (lambda: Book(3, thing), errors.BadBook),
                               (lambda: Book(3, (thing,)), errors.BadBook), (lambda: Office(thing, (0, 1)), errors.BadOffice),
                               (lambda: Office(O.book, thing), errors.BadOffice), (lambda: Kinds(thing, ()), errors.BadKinds),
                               (lambda: Kinds(2, thing), errors.BadKinds), (lambda: Kinds(2, ((0, 3), thing)), errors.BadKinds)):
                try:
                    call()
                except errors.LotError as error:
                    self.assertIs(error.__class__, kind)

    def test_doors_and_desks(self):
        named = {"come": "NoPerson IsThere", "leave": "NoPerson NotThere", "bar": "NoLot TooMany"}
        for office in OFFICES:
            for thing in strange():
                for name in named:
                    door = Door(office)
                    try:
                        getattr(door, name)(thing)
                    except errors.LotError as error:
                        self.assertIn(error.__class__.__name__, named[name].split())
                        self.assertEqual(door.deeds(), 0)
                for values, kinds in (((thing, 0), (errors.NoPerson,)), ((0, thing), (errors.NoPlace,))):
                    try:
                        Door(office).move(*values)
                    except errors.LotError as error:
                        self.assertIn(error.__class__, kinds)
        for thing in strange():
            self.raises(errors.NoLine, Desk().tell, thing)

    def test_errors(self):
        for name in [name for name, _ in parts(CLASSES["errors"])]:
            self.assertEqual(getattr(errors, name).__bases__, (errors.LotError,))
        self.assertEqual(errors.LotError.__bases__, (ValueError,))

    def test_equal_to_nothing_else(self):
        things = [B, O, K, Door(O), Desk()]
        for one in things:
            for other in things + strange():
                if one is not other:
                    self.assertFalse(one == other)
                    self.assertTrue(one != other)

"""Rules (1.3)."""

import random
import unittest
from itertools import combinations

from lastoflot.books import Book, is_clear
from lastoflot.errors import NoCrowd, NoPeople, NoRules, TooMany
from lastoflot.rules import keeps, lots_by
from tests import plain
from tests.plain import Checks, strange

WRONG_RULES = [
    ("both", 0, 0), ("both", 0, 5), ("both", -1, 0), ("both", 0), ("both", 0, 1, 2), ("both", True, 2),
    ("both", 2, False), ("both", "0", 1), ("both", (0, 1)), ["both", 0, 1], ("Both", 0, 1), (b"both", 0, 1),
    ("all", ()), ("all", (0,)), ("all", (1, 0)), ("all", (0, 0)), ("all", [0, 1]), ("all", (0, 5)), ("all", 0, 1),
    ("all",), ("all", (False, 1)), ["all", (0, 1)], ("all", (0, 1), (0, 1)), ("all ", (0, 1)), ("all", 1),
    ("most", 0, (0, 1)), ("most", 2, (0, 1)), ("most", 3, (0, 1)), ("most", -1, (0, 1)), ("most", True, (0, 1)),
    ("most", 1, (0,)), ("most", 0, (0,)), ("most", 0, ()), ("most", 1, [0, 1]), ("most", 1, (1, 0)),
    ("most", 1, (0, 5)), ("most", (0, 1), 1), ("most", "1", (0, 1)), ("most", 1), ("most", 1, (0, 1), 0),
    ("most", None, (0, 1)), ("most", (0,), (0, 1)), ["most", 1, (0, 1)], ("most", 10 ** 59, (0, 1)),
    ("without", 0, ()), ("without", 0, (0,)), ("without", 0, (0, 1)), ("without", 1, (0, 1)), ("without", 5, (0, 1)),
    ("without", -1, (0,)), ("without", True, (0,)), ("without", 0, [1]), ("without", 0, (2, 1)),
    ("without", 0, (5,)), ("without", 0, 1), ("without", (1,), 0), ("without", 0), ("without", 0, (1,), (2,)),
    ["without", 0, (1,)], ("without", None, (1,)), (), ("both",), ("", 0, 1), (0, 1, 2), ("none", 0, 1),
]


def plain_keeps(rules, crowd):
    """Whether a crowd keeps all rules, by their words."""
    for rule in rules:
        if rule[0] == "both" and rule[1] in crowd and rule[2] in crowd:
            return False
        if rule[0] == "all" and plain.within(rule[1], crowd):
            return False
        if rule[0] == "most" and len(set(rule[2]) & set(crowd)) > rule[1]:
            return False
        if rule[0] == "without" and rule[1] in crowd and set(rule[2]) & set(crowd):
            return False
    return True


def random_rule(rand, people):
    word = rand.choice(["both", "all", "most", "without"])
    persons = rand.sample(range(people), rand.randint(2, people))
    if word == "both":
        return (word, persons[0], persons[1])
    if word == "all":
        return (word, tuple(sorted(persons)))
    if word == "most":
        return (word, rand.randint(1, len(persons) - 1), tuple(sorted(persons)))
    return (word, persons[0], tuple(sorted(persons[1:])))


class RulesTest(Checks, unittest.TestCase):
    def going_through(self, people, rules):
        book = lots_by(people, rules)
        self.assertIsInstance(book, Book)
        self.assertEqual(book.people, people)
        for crowd in plain.crowds(people):
            wanted = plain_keeps(rules, crowd)
            self.same_flag(wanted, keeps(people, rules, crowd), rules, crowd)
            self.same_flag(wanted, is_clear(book, crowd), rules, crowd)

    def test_each_kind(self):
        self.assertEqual(lots_by(4, (("both", 2, 1),)).lots, ((1, 2),))
        self.assertEqual(lots_by(4, (("both", 1, 2),)).lots, ((1, 2),))
        self.assertEqual(lots_by(4, (("all", (0, 2, 3)),)).lots, ((0, 2, 3),))
        self.assertEqual(lots_by(4, (("most", 1, (0, 2, 3)),)).lots, ((0, 2), (0, 3), (2, 3)))
        self.assertEqual(lots_by(4, (("most", 2, (0, 2, 3)),)).lots, ((0, 2, 3),))
        self.assertEqual(lots_by(4, (("without", 1, (0, 2, 3)),)).lots, ((0, 1), (1, 2), (1, 3)))
        self.assertEqual(lots_by(4, (("without", 3, (0,)),)).lots, ((0, 3),))

    def test_each_kind_going_through(self):
        for rule in (("both", 3, 0), ("all", (0, 1)), ("all", (0, 1, 2, 3)), ("most", 1, (0, 1)),
                     ("most", 1, (0, 1, 2, 3)), ("most", 2, (1, 2, 3)), ("most", 3, (0, 1, 2, 3)),
                     ("without", 0, (3,)), ("without", 2, (0, 1, 3))):
            self.going_through(4, (rule,))
            self.going_through(4, [rule, rule])

    def test_many_kinds(self):
        rand = random.Random(4)
        for _ in range(120):
            people = rand.randint(2, 5)
            rules = [random_rule(rand, people) for _ in range(rand.randint(0, 5))]
            self.going_through(people, rules)
            self.going_through(people, tuple(rules))

    def test_none(self):
        for people in (1, 2, 12):
            for rules in ((), []):
                self.assertEqual(lots_by(people, rules), Book(people, ()))
                self.accepts(keeps, people, rules, tuple(range(people)))
                self.accepts(keeps, people, rules, ())

    def test_how_many(self):
        self.assertEqual(lots_by(3, (("both", 0, 1),) * 40), Book(3, ((0, 1),)))
        self.same_flag(False, keeps(3, [("both", 0, 1)] * 40, (0, 1)))
        for rules in ((("both", 0, 1),) * 41, [("both", 0, 1)] * 41):
            self.raises(NoRules, lots_by, 3, rules)
            self.raises(NoRules, keeps, 3, rules, ())

    def test_the_last_of_forty(self):
        rules = [("both", 0, 1)] * 39 + [("all", (1, 2))]
        self.same_flag(False, keeps(3, rules, (1, 2)))
        self.assertEqual(lots_by(3, rules).lots, ((0, 1), (1, 2)))
        self.raises(NoRules, lots_by, 3, rules[:39] + [("all", (2, 1))])

    def test_wrong_rules(self):
        for wrong in WRONG_RULES + strange():
            for rules in ((wrong,), [wrong], (("both", 0, 1), wrong), [wrong, ("both", 0, 1)]):
                self.raises(NoRules, keeps, 5, rules, (0,))
                self.raises(NoRules, lots_by, 5, rules)

    def test_no_rules_at_all(self):
        for thing in strange():
            if thing not in ([], ()):
                self.raises(NoRules, keeps, 5, thing, ())
                self.raises(NoRules, lots_by, 5, thing)
        self.raises(NoRules, lots_by, 5, {("both", 0, 1): 1})
        self.raises(NoRules, lots_by, 5, ("both", 0, 1))

    def test_edges_of_right_rules(self):
        self.same_flag(True, keeps(5, (("most", 4, (0, 1, 2, 3, 4)),), (0, 1, 2, 3)))
        self.same_flag(False, keeps(5, (("most", 4, (0, 1, 2, 3, 4)),), (0, 1, 2, 3, 4)))
        self.same_flag(True, keeps(5, (("both", 4, 0),), (1, 4)))

    def test_too_many_lots(self):
        self.raises(TooMany, lots_by, 12, [("most", 1, tuple(range(12)))], most=60)
        self.raises(TooMany, lots_by, 12, [("most", 5, tuple(range(12)))] * 40, most=60)
        self.assertEqual(len(lots_by(11, [("most", 1, tuple(range(11)))]).lots), 55)
        pairs = list(combinations(range(12), 2))
        sixty = [("without", 0, tuple(range(1, 12))), ("most", 1, tuple(range(1, 11))), ("both", 1, 11),
                 ("both", 2, 11), ("both", 3, 11), ("both", 4, 11)]
        self.assertEqual(len(lots_by(12, sixty).lots), 60)
        self.raises(TooMany, lots_by, 12, sixty + [("both", 5, 11)], most=60)
        self.assertTrue(set(lots_by(12, sixty).lots) <= set(pairs))

    def test_errors_in_order(self):
        for people in (0, 13, True, None, "2", 10 ** 59):
            self.raises(NoPeople, keeps, people, None, None)
            self.raises(NoPeople, lots_by, people, None)
            self.raises(NoPeople, lots_by, people, ())
            self.raises(NoPeople, keeps, people, (), ())
        self.raises(NoRules, keeps, 3, None, None)
        for wrong in plain.bad_crowds(3):
            self.raises(NoCrowd, keeps, 3, (), wrong)
            self.raises(NoCrowd, keeps, 3, [("both", 0, 1)], wrong)

    def test_arguments_stay(self):
        rules = [("most", 1, (0, 2)), ("both", 2, 0), ("all", (0, 1))]
        self.leaves(lots_by, 3, rules)
        self.leaves(keeps, 3, rules, (0, 1))
        self.assertEqual(rules, [("most", 1, (0, 2)), ("both", 2, 0), ("all", (0, 1))])

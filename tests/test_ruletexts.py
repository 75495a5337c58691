"""Texts of rules (19.2)."""

import random
import unittest

from lastoflot.errors import BadText, NoPeople, NoRules
from lastoflot.ruletexts import read_rules, rules_text
from tests.plain import Checks, strange

RULES = (("both", 2, 0), ("all", (0, 1, 3)), ("most", 2, (0, 2, 3)), ("without", 1, (0, 3)))
LINES = ["not both 2 0", "not all 0 1 3", "at most 2 of 0 2 3", "none of 0 3 with 1"]
NO_PEOPLE = [0, 13, -1, 10 ** 59, None, True, False, "4", (4,), [4], {}, b"4", 4 > 3]
# Lines that have none of the forms, or tell no rule of four people.
WRONG = [
    "", " ", "x", "0 1", "people 4", "list 0 1", "not", "not both", "not both ", "not both 0", "not both 0 1 2", "not both 0 0",
    "not both 0 4", "not both 0  1", "not  both 0 1", " not both 0 1", "not both 0 1 ", "not both 00 1", "not both 0 01",
    "not both 0,1", "not both a b", "not both 0 -1", "not both 12345 0", "not both 0 9999", "Not both 0 1", "not Both 0 1",
    "both 0 1", "not both\t0 1", "not both 0 1\t", "not both 0 and 1", "both not 0 1", "not  both 0  1", "not both of 0 1",
    "not all", "not all ", "not all 0", "not all 1 0", "not all 0 0", "not all 0 4", "not all 0  1", "not all 0 1 ",
    "not all 0 01", "not all 0,1", "not all 0 2 1", "not all 0 1 1", "not all x", "all 0 1", "not all of 0 1", "not all\t0 1",
    "not all 0 12345", " not all 0 1", "not any 0 1", "not all 0 1 with 2", "not all -", "not all 0 1 2 3 4",
    "at most", "at most 1", "at most 1 of", "at most 1 of ", "at most 1 of 0", "at most 0 of 0 1", "at most 2 of 0 1",
    "at most 3 of 0 1", "at most 1 of 1 0", "at most 1 of 0 4", "at most 1 of 0 0", "at most 01 of 0 1", "at most  1 of 0 1",
    "at most 1  of 0 1", "at most 1 of  0 1", "at most 1 of 0 1 ", "at most of 0 1", "at most -1 of 0 1", "at most x of 0 1",
    "at most 12345 of 0 1", "at most 9999 of 0 1", "at least 1 of 0 1", "At most 1 of 0 1", "at most 1 0 1", "most 1 of 0 1",
    "at most 1 1 of 0 1", "at most 1 of 0 01", "at most 1 of of 0 1", "at most 1 to 0 1", "at most 1 of 0,1", "at\tmost 1 of 0 1",
    "none", "none of", "none of with", "none of with 1", "none of 0", "none of 0 with", "none of 0 with ", "none of 0 1 with 1",
    "none of 0 with 0", "none of 1 0 with 2", "none of 0 with 4", "none of 4 with 0", "none of 0 0 with 1", "none of 0 with 01",
    "none of 00 with 1", "none of  0 with 1", "none of 0  with 1", "none of 0 with  1", "none of 0 with 1 ", "none 0 with 1",
    "none of 0 with 1 2", "none of 0 1 without 2", "None of 0 with 1", "none of 0 with x", "none of x with 0", "no of 0 with 1",
    "none of 0 with 12345", "none of 0,1 with 2", "none of - with 1", "none of 0 with 1 with 2", "none of 0 with with 1",
    "none of 0 with -1", "nothing of 0 with 1", "with 1 none of 0", "none of 0\twith 1", "none with 1", "none of 0 1",
    "none of 0 1 2 3 with 4", "not of 0 with 1", "at of 0 with 1", "not most 1 of 0 1", "none most 1 of 0 1", "at all 0 1",
    "at both 0 1", "none both 0 1", "none all 0 1",
]


def text(lines):
    return "".join(line + "\n" for line in lines)


def random_rules(rand, people, many):
    found = []
    for _ in range(many):
        crowd = tuple(sorted(rand.sample(range(people), rand.randint(2, people))))
        person = rand.choice(crowd)
        found.append(rand.choice([
            ("both", *rand.sample(crowd, 2)), ("all", crowd), ("most", rand.randint(1, len(crowd) - 1), crowd),
            ("without", person, tuple(other for other in crowd if other != person))]))
    return found


class WriteTest(Checks, unittest.TestCase):
    def test_each_form(self):
        self.assertEqual(rules_text(4, RULES), text(LINES))
        for rule, line in zip(RULES, LINES):
            self.assertEqual(rules_text(4, [rule]), line + "\n")
        self.assertEqual(rules_text(1, []), "")
        self.assertEqual(rules_text(12, ()), "")
        self.assertEqual(rules_text(12, [("without", 0, (11,)), ("most", 10, tuple(range(1, 12))), ("both", 10, 11)]), text([
            "none of 11 with 0", "at most 10 of 1 2 3 4 5 6 7 8 9 10 11", "not both 10 11"]))
        self.assertEqual(rules_text(2, [("both", 0, 1), ("both", 1, 0)]), "not both 0 1\nnot both 1 0\n")

    def test_forty(self):
        rules = [("both", 0, 1)] * 40
        self.assertEqual(rules_text(2, rules), "not both 0 1\n" * 40)
        self.assertEqual(read_rules(2, rules_text(2, rules)), tuple(rules))
        self.raises(NoRules, rules_text, 2, rules + rules[:1])

    def test_errors(self):
        for people in NO_PEOPLE + [thing for thing in strange() if not isinstance(thing, int)]:
            for rules in (RULES, None, []):
                self.raises(NoPeople, rules_text, people, rules)
        for rules in [thing for thing in strange() if not isinstance(thing, (list, tuple)) or len(thing)] + [
                RULES[0], [RULES], [list(RULES[0])], [("both", 0, 4)], [("all", (1, 0))], [("all", [0, 1])],
                [("most", 2, (0, 1))], [("without", 0, ())], {0: RULES[0]}, RULES + (None,), "not both 0 1\n",
                [("both", True, 0)], [("without", 1, (0, 1))], [("Both", 0, 1)]]:
            self.raises(NoRules, rules_text, 4, rules)
        self.raises(NoRules, rules_text, 3, RULES)

    def test_arguments_stay(self):
        self.leaves(rules_text, 4, list(RULES))


class ReadTest(Checks, unittest.TestCase):
    def bad(self, lines, line, people=4):
        self.raises(BadText, read_rules, people, text(lines), line=line)

    def test_read_back(self):
        self.assertEqual(read_rules(4, text(LINES)), RULES)
        self.assertEqual(read_rules(4, ""), ())
        rand = random.Random(261)
        for people in range(2, 13):
            for many in (0, 1, 5, 40):
                rules = random_rules(rand, people, many)
                written = rules_text(people, rules)
                found = read_rules(people, written)
                self.assertIsInstance(found, tuple)
                self.assertEqual(found, tuple(rules))
                self.assertEqual(rules_text(people, found), written)

    def test_named(self):
        self.assertEqual(read_rules(3, "not both 2 1\n"), (("both", 2, 1),))
        self.assertEqual(read_rules(3, "not all 1 2\n"), (("all", (1, 2)),))
        self.assertEqual(read_rules(3, "at most 1 of 0 1 2\n"), (("most", 1, (0, 1, 2)),))
        self.assertEqual(read_rules(3, "none of 0 2 with 1\n"), (("without", 1, (0, 2)),))
        self.assertEqual(read_rules(12, "none of 10 with 11\n"), (("without", 11, (10,)),))
        self.assertEqual(read_rules(1, ""), ())
        self.assertEqual(read_rules(2, "not both 0 1\nnot both 0 1\n"), (("both", 0, 1),) * 2)

    def test_wrong_lines(self):
        for wrong in WRONG:
            self.bad([wrong], 1)
            for at in range(4):
                self.bad(LINES[:at] + [wrong] + LINES[at + 1:], at + 1)
            self.bad(LINES + [wrong], 5)
            self.bad([wrong] * 50, 1)
            self.raises(BadText, read_rules, 4, text(LINES[:2] + [wrong]) + "x", line=3)

    def test_other_people(self):
        # Right lines of four people tell no rule of fewer.
        for people, line in ((1, 1), (2, 1), (3, 2), (4, None), (12, None)):
            if line is None:
                self.assertEqual(read_rules(people, text(LINES)), RULES)
            else:
                self.bad(LINES, line, people)

    def test_forty_one(self):
        self.assertEqual(len(read_rules(4, text(LINES * 10))), 40)
        for behind in (LINES[:1], LINES * 3, [""], ["x"], WRONG):
            self.bad(LINES * 10 + behind, 41)
        self.bad(LINES * 5 + ["x"] + LINES * 6, 21)
        self.bad(LINES * 9 + LINES[:3] + ["x"] + LINES, 40)
        self.raises(BadText, read_rules, 4, text(LINES * 10) + "x", line=41)
        self.raises(BadText, read_rules, 4, text(LINES * 10) + LINES[0], line=41)
        self.raises(BadText, read_rules, 4, text(LINES * 11) + "x", line=41)

    def test_end(self):
        for behind in LINES + ["x", " ", "\t", "0"]:
            self.raises(BadText, read_rules, 4, behind, line=1)
            self.raises(BadText, read_rules, 4, text(LINES) + behind, line=5)
        self.raises(BadText, read_rules, 4, text(LINES)[:-1], line=4)
        self.bad(["", ""], 1)
        self.bad(LINES + [""], 5)

    def test_errors(self):
        for people in NO_PEOPLE + [thing for thing in strange() if not isinstance(thing, int)]:
            for written in (text(LINES), None, "x", ""):
                self.raises(NoPeople, read_rules, people, written)
        for wrong in [thing for thing in strange() if not isinstance(thing, str)] + [LINES, text(LINES).encode(), RULES]:
            self.raises(BadText, read_rules, 4, wrong, line=0)
        for wrong in [thing for thing in strange() if isinstance(thing, str) and thing]:
            self.raises(BadText, read_rules, 4, wrong, line=1)

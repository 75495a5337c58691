"""Texts of rules, and reading them."""

from lastoflot.crowds import is_people
from lastoflot.errors import BadText, NoPeople
from lastoflot.reading import lines_in, number_in, numbers_in
from lastoflot.rules import MOST_RULES, check_rules, is_rule
from lastoflot.texts import closed_lines, numbers_text


def rules_text(people, rules):
    """The text of some rules, with a line for each of them."""
    check_rules(people, rules)
    return closed_lines([rule_line(rule) for rule in rules])


def rule_line(rule):
    """The line of a rule."""
    word = rule[0]
    if word == "both":
        return "not both " + numbers_text(rule[1:])
    if word == "all":
        return "not all " + numbers_text(rule[1])
    if word == "most":
        return f"at most {rule[1]} of {numbers_text(rule[2])}"
    return f"none of {numbers_text(rule[2])} with {rule[1]}"


def read_rules(people, text):
    """The tuple of the rules of a text."""
    if not is_people(people):
        raise NoPeople()
    lines = lines_in(text)
    found = []
    for at in range(len(lines) - 1):
        rule = rule_told(lines[at])
        if at >= MOST_RULES or not is_rule(people, rule):
            raise BadText(at + 1)
        found.append(rule)
    if lines[-1] != "":
        raise BadText(len(lines))
    return tuple(found)


def rule_told(line):
    """What a line tells, which is no rule if the line has none of the forms."""
    words = line.split(" ")
    start = words[:2]
    numbers = numbers_in(words[2:])
    if start == ["not", "both"] and numbers is not None:
        return ("both", *numbers)
    if start == ["not", "all"]:
        return ("all", numbers)
    if start == ["at", "most"] and words[3:4] == ["of"]:
        return ("most", number_in(words[2]), numbers_in(words[4:]))
    if start == ["none", "of"] and words[-2:-1] == ["with"]:
        return ("without", number_in(words[-1]), numbers_in(words[2:-2]))
    return None

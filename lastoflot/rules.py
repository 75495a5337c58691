"""Rules: ways to say which crowds may be in together."""

from lastoflot.books import least_book
from lastoflot.crowds import crowds_within, is_crowd, is_lot, is_number, is_people, is_person, is_tuple_of, is_word
from lastoflot.errors import NoCrowd, NoPeople, NoRules

MOST_RULES = 40


def keeps(people, rules, crowd):
    """Whether a crowd keeps all rules."""
    check_rules(people, rules)
    if not is_crowd(people, crowd):
        raise NoCrowd()
    return all([is_kept(rule, crowd) for rule in rules])


def lots_by(people, rules):
    """The book whose clear crowds are just those that keep all rules."""
    check_rules(people, rules)
    return least_book(people, [lot for rule in rules for lot in lots_of_rule(rule)])


def check_rules(people, rules):
    """Raises an error unless these are rules of so many people."""
    if not is_people(people):
        raise NoPeople()
    if not isinstance(rules, (list, tuple)) or len(rules) > MOST_RULES:
        raise NoRules()
    for rule in rules:
        if not is_rule(people, rule):
            raise NoRules()


def is_rule(people, thing):
    """Whether a thing is a rule of so many people."""
    if is_tuple_of(thing, 2):
        return is_word(thing[0], "all") and is_lot(people, thing[1])
    if not is_tuple_of(thing, 3):
        return False
    word, first, second = thing
    if is_word(word, "both"):
        return is_person(people, first) and is_person(people, second) and first != second
    if is_word(word, "most"):
        return is_number(first) and is_crowd(people, second) and 1 <= first < len(second)
    if is_word(word, "without"):
        return is_person(people, first) and is_crowd(people, second) and second != () and first not in second
    return False


def is_kept(rule, crowd):
    """Whether a crowd keeps a rule."""
    word = rule[0]
    if word == "both":
        return rule[1] not in crowd or rule[2] not in crowd
    if word == "all":
        return count_in(rule[1], crowd) < len(rule[1])
    if word == "most":
        return count_in(rule[2], crowd) <= rule[1]
    return rule[1] not in crowd or count_in(rule[2], crowd) == 0


def count_in(persons, crowd):
    """How many of some persons are in a crowd."""
    return len([person for person in persons if person in crowd])


def lots_of_rule(rule):
    """The lots that just those crowds are clear of that keep a rule."""
    word = rule[0]
    if word == "both":
        return [tuple(sorted(rule[1:]))]
    if word == "all":
        return [rule[1]]
    if word == "most":
        return crowds_within(rule[2], rule[1] + 1)
    return [tuple(sorted([rule[1], other])) for other in rule[2]]

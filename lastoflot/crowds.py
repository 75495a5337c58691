"""Numbers, crowds and lists are judged here, and crowds are kept as the bits of one integer."""

from itertools import combinations
from math import gcd


def is_number(thing):
    """Whether a thing is an integer and no flag."""
    return isinstance(thing, int) and not isinstance(thing, bool)


def is_below(bound, thing):
    """Whether a thing is a number from 0 on, below a bound."""
    return is_number(thing) and 0 <= thing < bound


def is_person(people, thing):
    """Whether a thing is one of so many people."""
    return is_below(people, thing)


def is_people(thing):
    """Whether a book can have so many people."""
    return is_number(thing) and 1 <= thing <= 12


def is_tuple_of(thing, many):
    """Whether a thing is a tuple of so many items."""
    return isinstance(thing, tuple) and len(thing) == many


def is_word(thing, word):
    """Whether a thing is this word."""
    return isinstance(thing, str) and thing == word


def is_crowd(people, thing):
    """Whether a thing is an ascending tuple of persons."""
    if not isinstance(thing, tuple):
        return False
    ahead = -1
    for person in thing:
        if not is_person(people, person) or person <= ahead:
            return False
        ahead = person
    return True


def is_crowd_within(people, crowd, thing):
    """Whether a thing is a crowd all of whose persons are persons of another crowd."""
    return is_crowd(people, thing) and is_part(thing, crowd)


def is_part(one, other):
    """Whether all persons of one crowd are persons of another one."""
    return (bits_of(one) | bits_of(other)) == bits_of(other)


def is_one_of(crowd, thing):
    """Whether a thing is a person of a crowd."""
    return is_number(thing) and thing in crowd


def is_lot(people, thing):
    """Whether a thing is a crowd of two or more."""
    return is_crowd(people, thing) and len(thing) >= 2


def is_row(people, thing):
    """Whether a thing is a tuple of unlike persons, in whatever order."""
    if not isinstance(thing, tuple):
        return False
    seen = 0
    for person in thing:
        if not is_person(people, person) or has(seen, person):
            return False
        seen = seen | (1 << person)
    return True


def is_list(people, thing):
    """Whether a thing is a tuple of all persons, each once."""
    return is_row(people, thing) and len(thing) == people


def has(bits, person):
    """Whether a person is one of a crowd that is kept as bits."""
    return (bits >> person) & 1 == 1


def bits_of(persons):
    """The integer that has a bit for each of some persons."""
    bits = 0
    for person in persons:
        bits = bits | (1 << person)
    return bits


def crowd_of(bits):
    """The crowd whose bits these are."""
    return tuple([person for person in range(bits.bit_length()) if has(bits, person)])


def count_of(bits):
    """How many persons a crowd has that is kept as bits."""
    return len(crowd_of(bits))


def all_crowds(people):
    """All crowds of so many people, fewest first."""
    return [crowd for size in range(people + 1) for crowd in combinations(range(people), size)]


def crowds_within(crowd, many):
    """The ascending list of the crowds of so many within a crowd."""
    return list(combinations(list(crowd), many))


def holds_any(bits, parts):
    """Whether one of some crowds is within a crowd, all of them kept as bits."""
    for part in parts:
        if (part & bits) == part:
            return True
    return False


def lowest(top, bottom):
    """The fraction of two numbers in lowest terms."""
    shared = gcd(top, bottom)
    return (top // shared, bottom // shared)

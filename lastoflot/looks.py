"""Without a clerk: people of a crowd who look by themselves whether they can be in."""

from lastoflot.crowds import bits_of, crowd_of, holds_any, is_crowd_within, is_one_of, is_tuple_of
from lastoflot.errors import NoLooks, NoState, TooMany
from lastoflot.offices import check_crowd, check_one_of, others_by_last

MOST_LOOKS = 200
MOST_IN_CROWD = 8


def check_state(office, crowd, state):
    """Raises an error unless these are a crowd of the people of an office and a crowd within it."""
    check_crowd(office, crowd)
    if not is_crowd_within(office.book.people, crowd, state):
        raise NoState()


def bits_looked(others, bits, person):
    """Those in behind a look of a person, all kept as bits, by the others of each lot with each last."""
    own = 1 << person
    if holds_any(bits, others[person]):
        return (bits | own) ^ own
    return bits | own


def looked(office, crowd, state, person):
    """The crowd of those in behind a look of a person."""
    check_state(office, crowd, state)
    check_one_of(crowd, person)
    return crowd_of(bits_looked(others_by_last(office), bits_of(state), person))


def looked_through(office, crowd, state, row):
    """The crowd of those in behind the looks of some persons, one behind another."""
    check_state(office, crowd, state)
    if not is_looks_of(crowd, row) or len(row) > MOST_LOOKS:
        raise NoLooks()
    others = others_by_last(office)
    bits = bits_of(state)
    for person in row:
        bits = bits_looked(others, bits, person)
    return crowd_of(bits)


def is_looks_of(crowd, thing):
    """Whether a thing is a tuple of persons of a crowd, some perhaps often."""
    return isinstance(thing, tuple) and all([is_one_of(crowd, person) for person in thing])


def is_quiet(office, crowd, thing):
    """Whether a thing is a crowd within a crowd that no look changes."""
    check_crowd(office, crowd)
    if not is_crowd_within(office.book.people, crowd, thing):
        return False
    others = others_by_last(office)
    bits = bits_of(thing)
    return all([bits_looked(others, bits, person) == bits for person in crowd])


def most_looks(office, crowd):
    """A state, and as many looks as can be from any one each of which changes something."""
    check_crowd(office, crowd)
    if len(crowd) > MOST_IN_CROWD:
        raise TooMany(MOST_IN_CROWD)
    others = others_by_last(office)
    row = [person for person in office.order if person in crowd]
    longest = {}
    # Whoever changes is right then, and only people behind can come to be wrong by it. So each look leads to a state
    # that stands ahead when the states are ordered by who is wrong in them, those ahead in the list counting first.
    for _, bits in sorted([(wrong_flags(others, bits, row), bits) for bits in states_within(crowd)]):
        longest[bits] = longest_from(others, longest, bits, row)
    start = max(list(longest), key=lambda state: len(longest[state]))
    return (crowd_of(start), longest[start])


def states_within(crowd):
    """All crowds within a crowd, kept as bits."""
    states = [0]
    for person in crowd:
        states = states + [bits | (1 << person) for bits in states]
    return states


def wrong_flags(others, bits, row):
    """For each one of a row whether a look of this one changes something."""
    return [bits_looked(others, bits, person) != bits for person in row]


def longest_from(others, longest, bits, row):
    """As many looks as can be from a state, told for all states to which one look leads."""
    found = ()
    for person in row:
        behind = bits_looked(others, bits, person)
        if behind != bits and len(longest[behind]) >= len(found):
            found = (person, *longest[behind])
    return found


def is_looks(office, crowd, thing):
    """Whether a thing is a state and looks each of which changes something."""
    check_crowd(office, crowd)
    if not is_tuple_of(thing, 2) or not is_crowd_within(office.book.people, crowd, thing[0]):
        return False
    if not is_looks_of(crowd, thing[1]):
        return False
    others = others_by_last(office)
    bits = bits_of(thing[0])
    for person in thing[1]:
        behind = bits_looked(others, bits, person)
        if behind == bits:
            return False
        bits = behind
    return True

"""Fronts: the other custom, by which whoever was out goes ahead of all others."""

from lastoflot.crowds import bits_of, crowd_of, has
from lastoflot.errors import TooMany
from lastoflot.offices import Office, check_person, ins_table, out
from lastoflot.turns import is_crowds_with

MOST_PEOPLE = 6


def next_front(office, crowd):
    """The office of the next day, in which those who were out stand ahead of all others."""
    gone = out(office, crowd)
    ahead = [person for person in office.order if person in gone]
    behind = [person for person in office.order if person not in gone]
    return Office(office.book, (*ahead, *behind))


def front_out(office, person):
    """As many crowds as can be, one for each day by the other custom, through which a person is out."""
    people = office.book.people
    check_person(people, person)
    if people > MOST_PEOPLE:
        raise TooMany(MOST_PEOPLE)
    ins = ins_table(office)
    ahead = bits_of(office.order[:office.order.index(person)])
    # Those ahead keep their own order from day to day, so it is enough to know who they are.
    longest = [()] * (1 << people)
    for bits in range(1, 1 << people):
        if (bits | ahead) == ahead:
            longest[bits] = longest_from(ins, longest, bits, person)
    return longest[ahead]


def longest_from(ins, longest, bits, person):
    """The most crowds through which a person is out when some stand ahead, kept as bits, told for all fewer ones."""
    found = ()
    for part in range(1, bits + 1):
        crowd = part | (1 << person)
        if (part | bits) == bits and not has(ins[crowd], person):
            rest = longest[part ^ ins[crowd]]
            if len(rest) >= len(found):
                found = (crowd_of(crowd), *rest)
    return found


def is_front_out(office, person, thing):
    """Whether a thing is a tuple of crowds with a person, who is out of them day after day by the other custom."""
    check_person(office.book.people, person)
    if not is_crowds_with(office.book.people, person, thing):
        return False
    today = office
    for crowd in thing:
        if person not in out(today, crowd):
            return False
        today = next_front(today, crowd)
    return True

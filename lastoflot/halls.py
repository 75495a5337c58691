"""Halls: offices one behind another, each for those who are out of those ahead."""

from lastoflot.alike import check_people
from lastoflot.choosers import bar_to_offices, office_of
from lastoflot.crowds import all_crowds, bits_of, crowd_of
from lastoflot.errors import NoHalls, TooMany
from lastoflot.offices import Office, bits_in, check_crowd, check_few, ins_table

MOST_HALLS = 4
MOST_PEOPLE = 6


def is_halls(thing):
    """Whether a thing is a list or tuple of a few offices of as many people."""
    if not isinstance(thing, (list, tuple)) or not 1 <= len(thing) <= MOST_HALLS:
        return False
    if not all([isinstance(hall, Office) for hall in thing]):
        return False
    return all([hall.book.people == thing[0].book.people for hall in thing])


def check_halls(halls):
    """Raises an error unless these are halls."""
    if not is_halls(halls):
        raise NoHalls()


def seated(halls, crowd):
    """The list of the crowds let in to each hall."""
    check_halls(halls)
    check_crowd(halls[0], crowd)
    found = []
    left = bits_of(crowd)
    for hall in halls:
        inside = bits_in(hall, left)
        found.append(crowd_of(inside))
        left = left ^ inside
    return found


def housed(halls, crowd):
    """The crowd of all who are let in to some hall."""
    return tuple(sorted([person for part in seated(halls, crowd) for person in part]))


def housed_table(halls):
    """The list of those housed from each crowd, all kept as bits."""
    every = list(range(1 << halls[0].book.people))
    left = list(every)
    for hall in halls:
        ins = ins_table(hall)
        left = [bits ^ ins[bits] for bits in left]
    return [bits ^ rest for bits, rest in zip(every, left)]


def halls_parting(one, other):
    """The crowd, fewest first, of which two rows of halls house unlike people, or None."""
    check_halls(one)
    check_halls(other)
    check_people(one[0], other[0])
    check_few(one[0])
    table = housed_table(one)
    other_table = housed_table(other)
    for crowd in all_crowds(one[0].book.people):
        bits = bits_of(crowd)
        if table[bits] != other_table[bits]:
            return crowd
    return None


def people_of(halls):
    """How many people some halls have, if they are few enough for a chooser."""
    check_halls(halls)
    people = halls[0].book.people
    if people > MOST_PEOPLE:
        raise TooMany(MOST_PEOPLE)
    return people


def chooser_of(halls):
    """The dict from all crowds to those housed."""
    table = housed_table(halls)
    return {crowd: crowd_of(table[bits_of(crowd)]) for crowd in all_crowds(halls[0].book.people)}


def as_one(halls):
    """The office, its list the least, that lets in just those housed from every crowd, or None."""
    people = people_of(halls)
    return office_of(people, chooser_of(halls))


def bar_to_one(halls):
    """A bar to offices for the chooser of those housed, or None."""
    people = people_of(halls)
    return bar_to_offices(people, chooser_of(halls))

"""Waiting places: whom a desk must hold that sees comers in whatever order."""

from lastoflot.crowds import all_crowds, bits_of, count_of, crowd_of, has, is_crowd, is_number, is_one_of, is_person
from lastoflot.crowds import is_row, is_tuple_of
from lastoflot.errors import NoNumber, NoPerson, NoRow
from lastoflot.offices import bits_in, check_crowd, check_few, ins_table


def hopes_by(people, ins):
    """The hopeful in each crowd, by those let in from each one, all kept as bits."""
    some = list(ins)
    # Wider crowds have greater numbers, so from the greatest on all wider ones are told.
    for bits in range(len(ins) - 1, -1, -1):
        for person in range(people):
            some[bits] = some[bits] | some[bits | (1 << person)]
    return [(bits ^ ins[bits]) & some[bits] for bits in range(len(ins))]


def hopes_table(office):
    """The list of the hopeful in each crowd, all kept as bits."""
    return hopes_by(office.book.people, ins_table(office))


def hopeful(office, crowd):
    """The crowd of those who are out of a crowd, but let in from some crowd within which it is."""
    check_few(office)
    check_crowd(office, crowd)
    return crowd_of(hopes_table(office)[bits_of(crowd)])


def bringers(office, crowd, person):
    """The crowd of others, fewest first, with whom together one who is out is let in, or None."""
    check_few(office)
    check_crowd(office, crowd)
    bits = bits_of(crowd)
    ins = ins_table(office)
    if not is_one_of(crowd, person) or has(ins[bits], person):
        raise NoPerson()
    return first_bringers(all_crowds(office.book.people), ins, bits, person)


def first_bringers(crowds, ins, bits, person):
    """The first of some crowds, apart from one kept as bits, with whom together a person is let in, or None."""
    for others in crowds:
        more = bits_of(others)
        if (more & bits) == 0 and has(ins[more | bits], person):
            return others
    return None


def places(office):
    """The greatest number of people who are hopeful in a crowd."""
    check_few(office)
    return max([count_of(hopes) for hopes in hopes_table(office)])


def fullest(office):
    """The crowd, fewest first, in which most people are hopeful."""
    check_few(office)
    hopes = hopes_table(office)
    return max(all_crowds(office.book.people), key=lambda crowd: count_of(hopes[bits_of(crowd)]))


def crowded(office, many):
    """A crowd, and for each of more than so many people who are out of it a crowd that brings this one in, or None."""
    check_few(office)
    check_many(many)
    if places(office) <= many:
        return None
    crowd = fullest(office)
    return (crowd, {person: bringers(office, crowd, person) for person in hopeful(office, crowd)})


def check_many(many):
    """Raises an error unless this is a number from 0 on."""
    if not is_number(many) or many < 0:
        raise NoNumber()


def is_crowded(office, many, thing):
    """Whether a thing is a crowd and, for each of more than so many who are out of it, a crowd of bringers."""
    check_many(many)
    if not is_tuple_of(thing, 2) or not is_crowd(office.book.people, thing[0]) or not isinstance(thing[1], dict):
        return False
    crowd, table = thing
    if len(table) <= many:
        return False
    return all([brings(office, crowd, person, table[person]) for person in table])


def brings(office, crowd, person, thing):
    """Whether a person is out of a crowd, but let in with a thing, which is a crowd of others."""
    people = office.book.people
    if not is_person(people, person) or person not in crowd or not is_crowd(people, thing):
        return False
    bits = bits_of(crowd)
    more = bits_of(thing)
    if (more & bits) != 0 or has(bits_in(office, bits), person):
        return False
    return has(bits_in(office, bits | more), person)


def kept(office, row):
    """Behind each comer of a row the pair of those let in from the people so far and of the hopeful."""
    check_few(office)
    if not is_row(office.book.people, row):
        raise NoRow()
    ins = ins_table(office)
    hopes = hopes_by(office.book.people, ins)
    bits = 0
    found = []
    for comer in row:
        bits = bits | (1 << comer)
        found.append((crowd_of(ins[bits]), crowd_of(hopes[bits])))
    return found

"""Turns: whoever was let in goes behind all others, and how long somebody can be out day after day."""

from lastoflot.books import is_lot_of
from lastoflot.crowds import bits_of, is_crowd
from lastoflot.errors import NoCrowds
from lastoflot.offices import Office, check_person, lasts, let_in

MOST_DAYS = 60


def next_day(office, crowd):
    """The office of the next day, in which those let in stand behind all others."""
    inside = let_in(office, crowd)
    ahead = [person for person in office.order if person not in inside]
    behind = [person for person in office.order if person in inside]
    return Office(office.book, (*ahead, *behind))


def check_crowds(office, crowds):
    """Raises an error unless these are crowds of the people of an office, one for each day."""
    if not isinstance(crowds, (list, tuple)) or len(crowds) > MOST_DAYS:
        raise NoCrowds()
    for crowd in crowds:
        if not is_crowd(office.book.people, crowd):
            raise NoCrowds()


def days(office, crowds):
    """The list of those let in on each day."""
    check_crowds(office, crowds)
    found = []
    today = office
    for crowd in crowds:
        found.append(let_in(today, crowd))
        today = next_day(today, crowd)
    return found


def after(office, crowds):
    """The office behind some days."""
    check_crowds(office, crowds)
    today = office
    for crowd in crowds:
        today = next_day(today, crowd)
    return today


def flower(book, person):
    """The least of the flowers of a person of as many lots as can be."""
    check_person(book.people, person)
    return greatest_flower([lot for lot in book.lots if person in lot], book.people, person)


def flower_ahead(office, person):
    """The least of the flowers of as many lots as can be in which all others stand ahead of the person."""
    book = office.book
    check_person(book.people, person)
    lots = [lot for lot, last in zip(book.lots, lasts(office)) if last == person]
    return greatest_flower(lots, book.people, person)


def greatest_flower(lots, people, person):
    """The least flower of as many as can be of some ascending lots that a person is of."""
    petals = [bits_of(lot) ^ (1 << person) for lot in lots]
    table = petals_table(petals, people)
    free = (1 << people) - 1
    chosen = []
    # A lot that no greatest flower has together with those chosen is in none with more chosen, either.
    for lot, petal in zip(lots, petals):
        if (petal | free) == free and table[free ^ petal] == table[free] - 1:
            chosen.append(lot)
            free = free ^ petal
    return tuple(chosen)


def petals_table(petals, people):
    """The list of the greatest number of petals apart from each other within each crowd, all kept as bits."""
    by_top = [[] for _ in range(people)]
    for petal in petals:
        by_top[petal.bit_length() - 1].append(petal)
    table = [0]
    for bits in range(1, 1 << people):
        top = bits.bit_length() - 1
        # The greatest person of the crowd is of none of the petals, or of just one.
        within = [1 + table[bits ^ petal] for petal in by_top[top] if (petal | bits) == bits]
        table.append(max([table[bits ^ (1 << top)], *within]))
    return table


def is_flower(book, person, thing):
    """Whether a thing is a flower of a person."""
    check_person(book.people, person)
    if not isinstance(thing, tuple):
        return False
    taken = 0
    ahead = ()
    for lot in thing:
        if not is_lot_of(book, lot) or person not in lot or lot <= ahead:
            return False
        petal = bits_of(lot) ^ (1 << person)
        if (petal & taken) != 0:
            return False
        taken = taken | petal
        ahead = lot
    return True


def longest_out(office, person):
    """As many crowds as can be, one for each day, through which a person is out."""
    # From each lot of the flower all others are let in, and go behind; the others of the next lots stay ahead.
    return flower_ahead(office, person)


def is_crowds_with(people, person, thing):
    """Whether a thing is a tuple of crowds each of which has a person."""
    if not isinstance(thing, tuple):
        return False
    return all([is_crowd(people, crowd) and person in crowd for crowd in thing])


def is_out_through(office, person, thing):
    """Whether a thing is a tuple of crowds with a person, who is out of them day after day."""
    check_person(office.book.people, person)
    if not is_crowds_with(office.book.people, person, thing):
        return False
    today = office
    for crowd in thing:
        if person in let_in(today, crowd):
            return False
        today = next_day(today, crowd)
    return True

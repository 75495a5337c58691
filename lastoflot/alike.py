"""Alike offices: those that let in the same from every crowd, and the exchanges that lead between them."""

from lastoflot.books import lots_bits
from lastoflot.crowds import all_crowds, bits_of, is_below
from lastoflot.errors import NoPlace, OtherBook, OtherPeople
from lastoflot.offices import Office, ins_table, lasts


def check_people(one, other):
    """Raises an error unless two offices have as many people."""
    if one.book.people != other.book.people:
        raise OtherPeople()


def check_book(one, other):
    """Raises an error unless two offices have the same book."""
    if one.book != other.book:
        raise OtherBook()


def alike(one, other):
    """Whether two offices let in the same from every crowd."""
    check_people(one, other)
    return one.book == other.book and lasts(one) == lasts(other)


def parting(one, other):
    """The crowd, fewest first, from which two offices let in unlike people, or None."""
    check_people(one, other)
    ins = ins_table(one)
    other_ins = ins_table(other)
    for crowd in all_crowds(one.book.people):
        bits = bits_of(crowd)
        if ins[bits] != other_ins[bits]:
            return crowd
    return None


def exchanged(office, k):
    """The office in whose list the persons numbered k and k + 1 have changed places."""
    if not is_below(office.book.people - 1, k):
        raise NoPlace()
    return Office(office.book, tuple(with_exchange(office.order, k)))


def with_exchange(order, k):
    """The persons of a list or tuple, those numbered k and k + 1 having changed places."""
    return [*order[:k], order[k + 1], order[k], *order[k + 2:]]


def is_dull(lots, order, k):
    """Whether the persons numbered k and k + 1 are not the last two of one of the lots, kept as bits."""
    pair = bits_of(order[k:k + 2])
    behind = bits_of(order[k + 2:])
    for lot in lots:
        if (lot & pair) == pair and (lot & behind) == 0:
            return False
    return True


def steps(one, other):
    """As few steps as can be from the list of one office to that of another, or None."""
    check_book(one, other)
    if not alike(one, other):
        return None
    # Two neighbours who stand otherwise in an alike list are never the last two of a lot:
    # so each exchange that sets two of them right is dull, and leads to an alike list again.
    place = {person: k for k, person in enumerate(other.order)}
    order = list(one.order)
    found = []
    for behind in range(1, len(order)):
        k = behind
        while k > 0 and place[order[k - 1]] > place[order[k]]:
            k = k - 1
            order = with_exchange(order, k)
            found.append(k)
    return tuple(found)


def is_steps(one, other, thing):
    """Whether a thing is steps, few or many, from the list of one office to that of another."""
    check_book(one, other)
    if not isinstance(thing, tuple):
        return False
    lots = lots_bits(one.book)
    order = list(one.order)
    for k in thing:
        if not is_below(len(order) - 1, k) or not is_dull(lots, order, k):
            return False
        order = with_exchange(order, k)
    return tuple(order) == other.order

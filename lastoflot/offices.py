"""Offices: a book and a list, by which people are let in."""

from lastoflot.books import Book, check_crowd_of, lots_bits
from lastoflot.crowds import all_crowds, bits_of, crowd_of, has, holds_any, is_list, is_lot, is_one_of, is_person
from lastoflot.errors import BadOffice, NoPerson, TooMany

MOST_IN_TABLES = 10


class Office:
    """A book, and a list that ranks all its people."""

    def __init__(self, book, order):
        if not isinstance(book, Book):
            raise BadOffice("book")
        if not is_list(book.people, order):
            raise BadOffice("order")
        self.book = book
        self.order = order

    def __eq__(self, other):
        return isinstance(other, Office) and self.book == other.book and self.order == other.order


def lasts(office):
    """The tuple of the lasts of all lots, in the order of the book."""
    return lasts_by(office.book, office.order)


def lasts_by(book, order):
    """The tuple of those of each lot who stand farthest behind in a list."""
    return tuple([[person for person in order if person in lot][-1] for lot in book.lots])


def others_by_last(office):
    """For each person the bits of the others of each lot of which this one is the last."""
    others = [[] for _ in office.order]
    for lot, last in zip(office.book.lots, lasts(office)):
        others[last].append(bits_of(lot) ^ (1 << last))
    return others


def check_crowd(office, crowd):
    """Raises an error unless this is a crowd of the people of the office."""
    check_crowd_of(office.book, crowd)


def check_person(people, person):
    """Raises an error unless this is one of so many people."""
    if not is_person(people, person):
        raise NoPerson()


def check_one_of(crowd, person):
    """Raises an error unless this is a person of a crowd."""
    if not is_one_of(crowd, person):
        raise NoPerson()


def check_few(office):
    """Raises an error if there are too many people to go through all crowds."""
    if office.book.people > MOST_IN_TABLES:
        raise TooMany(MOST_IN_TABLES)


def let_in(office, crowd):
    """The crowd of those let in from a crowd."""
    check_crowd(office, crowd)
    return crowd_of(bits_in(office, bits_of(crowd)))


def out(office, crowd):
    """The crowd of those of a crowd who are not let in."""
    check_crowd(office, crowd)
    bits = bits_of(crowd)
    return crowd_of(bits ^ bits_in(office, bits))


def bits_in(office, bits):
    """Those let in from a crowd, all kept as bits."""
    lots = lots_bits(office.book)
    inside = 0
    for person in office.order:
        more = inside | (1 << person)
        # All who are in stand ahead, so a lot that would be in whole has this one as its last.
        if has(bits, person) and not holds_any(more, lots):
            inside = more
    return inside


def ins_table(office):
    """The list of those let in from each crowd, all kept as bits."""
    ins = [0] * (1 << office.book.people)
    others = others_by_last(office)
    # Those let in from a crowd do not hang on who stands behind all of it in the list.
    known = [0]
    for person in office.order:
        wider = [bits | (1 << person) for bits in known]
        for bits, more in zip(known, wider):
            ins[more] = ins[bits]
            if not holds_any(ins[bits], others[person]):
                ins[more] = ins[bits] | (1 << person)
        known = known + wider
    return ins


def reasons(office, crowd):
    """For each one who is out the least lot of which this one is the last and all others are let in."""
    check_crowd(office, crowd)
    bits = bits_of(crowd)
    inside = bits_in(office, bits)
    found = {}
    for lot, last in zip(office.book.lots, lasts(office)):
        if has(bits ^ inside, last) and last not in found and is_whole_but(lot, last, inside):
            found[last] = lot
    return found


def is_whole_but(lot, last, inside):
    """Whether all of a lot but its last are let in."""
    return holds_any(inside, [bits_of(lot) ^ (1 << last)])


def is_reason(office, crowd, person, thing):
    """Whether a thing is a lot of which a person is the last and all others are let in."""
    check_crowd(office, crowd)
    check_one_of(crowd, person)
    if not is_lot(office.book.people, thing):
        return False
    inside = bits_in(office, bits_of(crowd))
    for lot, last in zip(office.book.lots, lasts(office)):
        if lot == thing:
            return last == person and is_whole_but(lot, last, inside)
    return False


def outcomes(office):
    """The dict from all crowds to those let in."""
    check_few(office)
    ins = ins_table(office)
    return {crowd: crowd_of(ins[bits_of(crowd)]) for crowd in all_crowds(office.book.people)}


def from_below(office, crowd):
    """Those left when from behind on each last of a lot that is still there whole is struck out."""
    check_crowd(office, crowd)
    return crowd_of(bits_left(office, others_by_last(office), bits_of(crowd)))


def bits_left(office, others, bits):
    """Those left when lasts are struck out from behind on, all kept as bits."""
    left = bits
    for person in reversed(office.order):
        if has(left, person) and holds_any(left, others[person]):
            left = left ^ (1 << person)
    return left

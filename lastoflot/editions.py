"""Editions: books with a lot more or less, lists in which one is raised, people by other names."""

from lastoflot.alike import check_people
from lastoflot.books import MOST_LOTS, Book, is_clear
from lastoflot.crowds import crowd_of, is_below, is_list, is_lot, is_part
from lastoflot.errors import NoList, NoLot, NoNumber, NoPlace, TooMany
from lastoflot.offices import Office, check_few, check_person, ins_table


def with_lot(book, lot):
    """The book with one lot more, without the lots that it is within."""
    if not is_lot(book.people, lot) or not is_clear(book, lot):
        raise NoLot()
    lots = [other for other in book.lots if not is_part(lot, other)]
    if len(lots) >= MOST_LOTS:
        raise TooMany(MOST_LOTS)
    return Book(book.people, tuple(sorted([*lots, lot])))


def without_lot(book, number):
    """The book without the lot with a number."""
    if not is_below(len(book.lots), number):
        raise NoNumber()
    return Book(book.people, (*book.lots[:number], *book.lots[number + 1:]))


def raised(office, person, place):
    """The office in whose list a person stands at a place, all others in their order."""
    check_person(office.book.people, person)
    if not is_below(office.book.people, place):
        raise NoPlace()
    others = [other for other in office.order if other != person]
    return Office(office.book, (*others[:place], person, *others[place:]))


def named(office, order):
    """The office in which each person has the name that a list tells."""
    if not is_list(office.book.people, order):
        raise NoList()
    lots = [tuple(sorted([order[person] for person in lot])) for lot in office.book.lots]
    book = Book(office.book.people, tuple(sorted(lots)))
    return Office(book, tuple([order[person] for person in office.order]))


def harmed(one, other):
    """The crowd of all who are let in from some crowd by the one office, but not by the other."""
    check_people(one, other)
    check_few(one)
    harm = 0
    for bits, other_bits in zip(ins_table(one), ins_table(other)):
        harm = harm | (bits ^ (bits & other_bits))
    return crowd_of(harm)

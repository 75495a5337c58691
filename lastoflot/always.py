"""Books whose offices are steady with every list."""

from lastoflot.books import lots_bits
from lastoflot.crowds import bits_of, crowd_of, holds_any, is_list
from lastoflot.offices import Office
from lastoflot.steady import steady


def always_steady(book):
    """Whether the offices of a book are steady with every list."""
    return spare(book) is None


def spare(book):
    """The least two lots, by number, and a person of both without whom their persons are clear, or None."""
    lots = lots_bits(book)
    for i in range(len(lots)):
        for j in range(i + 1, len(lots)):
            for person in crowd_of(lots[i] & lots[j]):
                if not holds_any((lots[i] | lots[j]) ^ (1 << person), lots):
                    return (i, j, person)
    return None


def unsteady_list(book):
    """A list with which the office is not steady, or None."""
    found = spare(book)
    if found is None:
        return None
    i, j, person = found
    # The person is made the last of the lot i, and somebody who is of the lot j alone the last of that:
    # the two lots clash, and no third lot is within the clear rest of them.
    final = [other for other in book.lots[j] if other not in book.lots[i]][0]
    rest = bits_of(book.lots[i] + book.lots[j]) ^ bits_of((person, final))
    front = [*crowd_of(rest), person, final]
    behind = [other for other in range(book.people) if other not in front]
    return (*front, *behind)


def is_unsteady_list(book, thing):
    """Whether a thing is a list with which the office is not steady."""
    return is_list(book.people, thing) and not steady(Office(book, thing))

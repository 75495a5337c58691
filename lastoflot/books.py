"""Books: which lots of people cannot all be in together."""

from lastoflot.crowds import bits_of, crowd_of, has, holds_any, is_crowd, is_lot, is_people
from lastoflot.errors import BadBook, NoCrowd, NoHeaps, NoPeople, TooMany

MOST_LOTS = 60
MOST_HEAPS = 200


class Book:
    """So many people, and the ascending lots of them, none within another one."""

    def __init__(self, people, lots):
        if not is_people(people):
            raise BadBook("people", -1)
        if not isinstance(lots, tuple) or len(lots) > MOST_LOTS:
            raise BadBook("lots", -1)
        at = first_wrong(people, lots)
        if at is not None:
            raise BadBook("lots", at)
        self.people = people
        self.lots = lots

    def __eq__(self, other):
        return isinstance(other, Book) and self.people == other.people and self.lots == other.lots


def first_wrong(people, lots):
    """The number of the first item that cannot stand behind those ahead of it, or None."""
    ahead = []
    for at in range(len(lots)):
        lot = lots[at]
        if not is_lot(people, lot):
            return at
        bits = bits_of(lot)
        if (at > 0 and lot <= lots[at - 1]) or is_nested(bits, ahead):
            return at
        ahead.append(bits)
    return None


def is_nested(bits, others):
    """Whether a crowd is within one of the others, or one of them within it, all kept as bits."""
    for other in others:
        shared = bits & other
        if shared == bits or shared == other:
            return True
    return False


def lots_bits(book):
    """The list of the lots, as bits."""
    return [bits_of(lot) for lot in book.lots]


def is_lot_of(book, thing):
    """Whether a thing is one of the lots of a book."""
    return is_lot(book.people, thing) and thing in book.lots


def is_clear(book, thing):
    """Whether a thing is a crowd within which no lot is."""
    return is_crowd(book.people, thing) and not holds_any(bits_of(thing), lots_bits(book))


def book_of(people, heaps):
    """The book of those heaps within which no other, unlike one is."""
    if not is_people(people):
        raise NoPeople()
    if not is_heaps(people, heaps):
        raise NoHeaps()
    return least_book(people, heaps)


def is_heaps(people, thing):
    """Whether a thing is a list or tuple of lots, not too many of them."""
    if not isinstance(thing, (list, tuple)) or len(thing) > MOST_HEAPS:
        return False
    return all([is_lot(people, heap) for heap in thing])


def least_book(people, heaps):
    """The book of the least ones of any number of lots."""
    least = []
    # From the small ones on, whatever is kept has nothing within it that comes later.
    for heap in sorted(heaps, key=len):
        bits = bits_of(heap)
        if not holds_any(bits, least):
            least.append(bits)
        if len(least) > MOST_LOTS:
            raise TooMany(MOST_LOTS)
    return Book(people, tuple(sorted([crowd_of(bits) for bits in least])))


def check_crowd_of(book, crowd):
    """Raises an error unless this is a crowd of the people of a book."""
    if not is_crowd(book.people, crowd):
        raise NoCrowd()


def bases(book, crowd):
    """The ascending list of the clear crowds within a crowd to which nobody of it can be added."""
    check_crowd_of(book, crowd)
    lots = lots_bits(book)
    clear = [0]
    for person in crowd:
        wider = [bits | (1 << person) for bits in clear]
        clear = clear + [bits for bits in wider if not holds_any(bits, lots)]
    full = [bits for bits in clear if is_full(bits, crowd, lots)]
    return sorted([crowd_of(bits) for bits in full])


def is_full(bits, crowd, lots):
    """Whether with each one more of the crowd some lot would be within."""
    for person in crowd:
        if not has(bits, person) and not holds_any(bits | (1 << person), lots):
            return False
    return True

"""Choosers: dicts that tell who is let in from each crowd, and whether they are offices."""

from lastoflot.books import Book
from lastoflot.crowds import all_crowds, bits_of, has, holds_any, is_crowd, is_crowd_within, is_number, is_one_of
from lastoflot.crowds import is_part, is_person, is_row, is_tuple_of, is_word
from lastoflot.errors import NoChooser, NoPeople
from lastoflot.offices import Office
from lastoflot.tables import list_for, ring_of

MOST_PEOPLE = 6


def is_chooser(people, thing):
    """Whether a thing is a chooser of so many people."""
    if not is_number(people) or not 1 <= people <= MOST_PEOPLE:
        raise NoPeople()
    if not isinstance(thing, dict) or len(thing) != 1 << people:
        return False
    return all([crowd in thing and is_crowd_within(people, crowd, thing[crowd]) for crowd in all_crowds(people)])


def check_chooser(people, chooser):
    """Raises an error unless this is a chooser of so many people."""
    if not is_chooser(people, chooser):
        raise NoChooser()


def left_out(chooser, crowd):
    """The list of those of a crowd whom a chooser does not let in."""
    return [person for person in crowd if person not in chooser[crowd]]


def least_crowds(people, chooser):
    """The list of the least crowds of a chooser, fewest first."""
    found = []
    least = []
    for crowd in all_crowds(people):
        bits = bits_of(crowd)
        # A crowd within which none is that has somebody out is a least one; fewest first, these are told by now.
        if chooser[crowd] != crowd and not holds_any(bits, least):
            found.append(crowd)
            least.append(bits)
    return found


def least_lots(people, chooser):
    """The ascending list of the least crowds of two or more."""
    return sorted([crowd for crowd in least_crowds(people, chooser) if len(crowd) >= 2])


def others_by_out(people, chooser):
    """For each person the bits of the others of each least crowd of two or more from which just this one is out."""
    others = [[] for _ in range(people)]
    for crowd in least_lots(people, chooser):
        gone = left_out(chooser, crowd)
        if len(gone) == 1:
            others[gone[0]].append(bits_of(crowd) ^ (1 << gone[0]))
    return others


def office_of(people, chooser):
    """The office that lets in what a chooser does, with the least such list, or None."""
    if bar_to_offices(people, chooser) is not None:
        return None
    book = Book(people, tuple(least_lots(people, chooser)))
    return Office(book, list_for(book, outs_table(book, chooser)))


def outs_table(book, chooser):
    """The tuple of those who are out of each lot of a book."""
    return tuple([left_out(chooser, lot)[0] for lot in book.lots])


def bar_to_offices(people, chooser):
    """A bar to offices, or None."""
    check_chooser(people, chooser)
    for crowd in least_crowds(people, chooser):
        if len(crowd) == 1:
            return ("alone", crowd[0])
        if len(left_out(chooser, crowd)) != 1:
            return ("many", crowd)
    book = Book(people, tuple(least_lots(people, chooser)))
    ring = ring_of(book, outs_table(book, chooser))
    if ring is not None:
        return ("ring", ring)
    return bar_in_crowds(people, chooser)


def bar_in_crowds(people, chooser):
    """A bar that shows in what is let in from one crowd, or None."""
    lots = least_lots(people, chooser)
    others = others_by_out(people, chooser)
    for crowd in all_crowds(people):
        for lot in lots:
            if is_part(lot, chooser[crowd]):
                return ("lot", crowd, lot)
        for person in left_out(chooser, crowd):
            if not holds_any(bits_of(chooser[crowd]), others[person]):
                return ("out", crowd, person)
    return None


def is_bar_to_offices(people, chooser, thing):
    """Whether a thing is a bar to offices."""
    check_chooser(people, chooser)
    if is_tuple_of(thing, 2):
        return is_short_bar(people, chooser, thing[0], thing[1])
    if is_tuple_of(thing, 3) and is_crowd(people, thing[1]):
        return is_bar_in_crowd(people, chooser, thing[0], thing[1], thing[2])
    return False


def is_short_bar(people, chooser, word, thing):
    """Whether a word and a thing make a bar: of one person, of a least crowd, or of a ring."""
    if is_word(word, "alone"):
        return is_person(people, thing) and chooser[(thing,)] == ()
    if is_word(word, "many"):
        if not is_crowd(people, thing) or thing not in least_crowds(people, chooser):
            return False
        return len(left_out(chooser, thing)) != 1
    return is_word(word, "ring") and is_ring_of_outs(people, chooser, thing)


def is_ring_of_outs(people, chooser, thing):
    """Whether a thing is a row in which each one, and the first behind the last, has the one ahead in a least crowd."""
    if not is_row(people, thing) or len(thing) < 2:
        return False
    others = others_by_out(people, chooser)
    return all([is_in_some(others[thing[k]], thing[k - 1]) for k in range(len(thing))])


def is_in_some(parts, person):
    """Whether a person is of one of some crowds, kept as bits."""
    return any([has(part, person) for part in parts])


def is_bar_in_crowd(people, chooser, word, crowd, thing):
    """Whether a word, a crowd and a thing make a bar: of a lot let in, or of a person out without a lot."""
    inside = chooser[crowd]
    if is_word(word, "lot"):
        return is_crowd_within(people, inside, thing) and thing in least_lots(people, chooser)
    if not is_word(word, "out") or not is_one_of(crowd, thing) or thing in inside:
        return False
    return not holds_any(bits_of(inside), others_by_out(people, chooser)[thing])

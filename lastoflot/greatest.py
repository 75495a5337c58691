"""As many as can be: the greatest clear crowds, and offices that let in as many."""

from itertools import combinations

from lastoflot.always import always_steady, spare
from lastoflot.books import check_crowd_of, lots_bits
from lastoflot.crowds import all_crowds, bits_of, count_of, crowd_of, holds_any, is_crowd, is_list, is_person
from lastoflot.crowds import is_tuple_of, lowest
from lastoflot.offices import Office, bits_in, check_few, ins_table


def most(book, crowd):
    """The greatest number of people of a clear crowd within a crowd."""
    return len(greatest_clear(book, crowd))


def greatest_clear(book, crowd):
    """The least clear crowd of as many as can be within a crowd."""
    check_crowd_of(book, crowd)
    lots = lots_bits(book)
    for size in range(len(crowd), 0, -1):
        for part in combinations(list(crowd), size):
            if not holds_any(bits_of(part), lots):
                return part
    return ()


def most_table(book):
    """The list of the greatest number of people of a clear crowd within each crowd, kept as bits."""
    lots = lots_bits(book)
    table = [0]
    for bits in range(1, 1 << book.people):
        if holds_any(bits, lots):
            table.append(max([table[bits ^ (1 << person)] for person in crowd_of(bits)]))
        else:
            table.append(count_of(bits))
    return table


def generous(office):
    """Whether an office lets in as many as can be from every crowd."""
    return stingy(office) is None


def stingy(office):
    """A crowd from which an office lets in fewer than can be, or None."""
    check_few(office)
    ins = ins_table(office)
    table = most_table(office.book)
    for bits in range(len(ins)):
        if count_of(ins[bits]) < table[bits]:
            return crowd_of(bits)
    return None


def is_stingy(office, thing):
    """Whether a thing is a crowd from which an office lets in fewer than can be."""
    if not is_crowd(office.book.people, thing):
        return False
    return count_of(bits_in(office, bits_of(thing))) < most(office.book, thing)


def fewer(office):
    """A crowd and a person not of it together with whom fewer are let in than without, or None."""
    check_few(office)
    ins = ins_table(office)
    for bits in range(len(ins)):
        for person in range(office.book.people):
            if count_of(ins[bits | (1 << person)]) < count_of(ins[bits]):
                return (crowd_of(bits), person)
    return None


def is_fewer(office, thing):
    """Whether a thing is a crowd and a person not of it together with whom fewer are let in than without."""
    people = office.book.people
    if not is_tuple_of(thing, 2) or not is_crowd(people, thing[0]) or not is_person(people, thing[1]):
        return False
    bits = bits_of(thing[0])
    # Who is of the crowd already changes nothing, so no fewer are let in then.
    return count_of(bits_in(office, bits | (1 << thing[1]))) < count_of(bits_in(office, bits))


def least_share(office):
    """The least fraction of those who can be let in that is let in, and the crowd, fewest first, with it."""
    check_few(office)
    ins = ins_table(office)
    table = most_table(office.book)
    # One person alone is always let in, so the whole is where to begin.
    top = bottom = 1
    found = (0,)
    for crowd in all_crowds(office.book.people):
        bits = bits_of(crowd)
        many = count_of(ins[bits])
        if many * bottom < top * table[bits]:
            top = many
            bottom = table[bits]
            found = crowd
    return (lowest(top, bottom), found)


def always_generous(book):
    """Whether the offices of a book are generous with every list."""
    return always_steady(book)


def mean_list(book):
    """A list and a crowd from which the office with it lets in fewer than can be, or None."""
    found = spare(book)
    if found is None:
        return None
    one, other = book.lots[found[0]], book.lots[found[1]]
    # Of the persons of both lots all but one can be in. With those ahead whom both lots have, two are out: were it one
    # alone, each lot within would have this one, so both have, and a lot of such people alone would put this one out;
    # but no lot is within another one.
    together = sorted(set(one + other))
    front = [person for person in one if person in other]
    middle = [person for person in together if person not in front]
    behind = [person for person in range(book.people) if person not in together]
    return ((*front, *middle, *behind), tuple(together))


def is_mean_list(book, thing):
    """Whether a thing is a list and a crowd from which the office with it lets in fewer than can be."""
    if not is_tuple_of(thing, 2) or not is_list(book.people, thing[0]):
        return False
    return is_stingy(Office(book, thing[0]), thing[1])

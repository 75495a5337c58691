"""One more, one less: who is touched when somebody comes or leaves."""

from lastoflot.books import lots_bits
from lastoflot.crowds import all_crowds, bits_of, count_of, crowd_of, is_crowd, is_one_of, is_person, is_tuple_of
from lastoflot.errors import NoPerson, NotSteady
from lastoflot.offices import bits_in, check_crowd, check_few, check_one_of, ins_table, lasts
from lastoflot.steady import steady


def comer(office, crowd, person):
    """Those of a crowd who are let in only if one more comes, and those who are let in only if not."""
    check_crowd(office, crowd)
    if not is_person(office.book.people, person) or is_one_of(crowd, person):
        raise NoPerson()
    bits = bits_of(crowd)
    return changes(bits, bits_in(office, bits), bits_in(office, bits | (1 << person)))


def leaver(office, crowd, person):
    """Those of the others of a crowd who are let in only if one goes, and those who are let in only if not."""
    check_crowd(office, crowd)
    check_one_of(crowd, person)
    bits = bits_of(crowd)
    rest = bits ^ (1 << person)
    return changes(rest, bits_in(office, bits), bits_in(office, rest))


def changes(bits, before, behind):
    """Those of some who are in behind a change alone, and those who are in before it alone, told as bits."""
    turned = bits & (before ^ behind)
    return (crowd_of(turned & behind), crowd_of(turned & before))


def most_touched(office):
    """The greatest number of people who are touched by one comer."""
    crowd, person = touching(office)
    came, went = comer(office, crowd, person)
    return len(came) + len(went)


def touching(office):
    """The crowd, fewest first, and the least person, with whom as many are touched as can be."""
    check_few(office)
    ins = ins_table(office)
    found = None
    greatest = -1
    for crowd in all_crowds(office.book.people):
        bits = bits_of(crowd)
        for person in range(office.book.people):
            wider = bits | (1 << person)
            many = count_of((ins[bits] ^ ins[wider]) & bits)
            if wider != bits and many > greatest:
                found = (crowd, person)
                greatest = many
    return found


def check_steady(office):
    """Raises an error unless an office is steady."""
    if not steady(office):
        raise NotSteady()


def one_for_one(office):
    """Whether at most one comes in whoever leaves whatever crowd."""
    return lots_for_two(office) is None


def two_for_one(office):
    """A crowd, and a person of it behind whose leaving two or more come in, or None."""
    found = lots_for_two(office)
    if found is None:
        return None
    i, j, person = found
    # Both lasts are out of the persons of both lots; once this one has left, no lot there keeps them out.
    return (crowd_of(bits_of(office.book.lots[i] + office.book.lots[j])), person)


def is_two_for_one(office, thing):
    """Whether a thing is a crowd and a person of it behind whose leaving two or more come in."""
    check_steady(office)
    if not is_tuple_of(thing, 2) or not is_crowd(office.book.people, thing[0]) or not is_one_of(thing[0], thing[1]):
        return False
    came, _ = leaver(office, thing[0], thing[1])
    return len(came) >= 2


def lots_for_two(office):
    """The least two lots, by number, and a person of both without whom the lasts of both are kept out no more."""
    check_steady(office)
    lots = lots_bits(office.book)
    table = lasts(office)
    for i in range(len(lots)):
        for j in range(i + 1, len(lots)):
            for person in crowd_of(lots[i] & lots[j]):
                pair = (table[i], table[j])
                rest = (lots[i] | lots[j]) ^ (1 << person)
                if pair[0] != pair[1] and person not in pair and not keeps_out(lots, table, rest, pair):
                    return (i, j, person)
    return None


def keeps_out(lots, table, bits, pair):
    """Whether within a crowd some lot, both kept as bits, has one of two persons as its last."""
    return any([last in pair and (lot | bits) == bits for lot, last in zip(lots, table)])

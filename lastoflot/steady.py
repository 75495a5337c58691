"""Steady offices: nobody who is out is ever called back by one more comer."""

from lastoflot.books import lots_bits
from lastoflot.crowds import bits_of, crowd_of, has, is_below, is_crowd, is_number, is_person, is_tuple_of
from lastoflot.errors import NoPair
from lastoflot.offices import bits_in, bits_left, ins_table, lasts, others_by_last


def steady(office):
    """Whether whoever is out of a crowd is out of every crowd within which it is."""
    return clash(office) is None


def clash_pairs(office):
    """The ascending list of the pairs of lots the last of whose former is of the latter, but not its last."""
    lots = office.book.lots
    table = lasts(office)
    numbers = range(len(lots))
    return [(i, j) for i in numbers for j in numbers if table[i] in lots[j] and table[i] != table[j]]


def third_of(office, pair):
    """The least number of a third lot of a clash pair, or None."""
    if not is_clash_pair(office, pair):
        raise NoPair()
    numbers = third_lots(lots_bits(office.book), lasts(office), pair)
    if numbers:
        return numbers[0]
    return None


def is_clash_pair(office, thing):
    """Whether a thing is a clash pair."""
    if not is_tuple_of(thing, 2):
        return False
    if not all([is_below(len(office.book.lots), number) for number in thing]):
        return False
    return thing in clash_pairs(office)


def third_lots(lots, table, pair):
    """The ascending list of the numbers of the third lots of a clash pair, the lots kept as bits."""
    first, second = pair
    room = (lots[first] | lots[second]) ^ (1 << table[first])
    return [k for k in range(len(lots)) if table[k] == table[second] and (lots[k] & room) == lots[k]]


def thirds(office):
    """A dict from all clash pairs to the number of a third lot of each, or None."""
    lots = lots_bits(office.book)
    table = lasts(office)
    found = {}
    for pair in clash_pairs(office):
        numbers = third_lots(lots, table, pair)
        if not numbers:
            return None
        found[pair] = numbers[0]
    return found


def is_thirds(office, thing):
    """Whether a thing is a dict from all clash pairs to the number of a third lot of each."""
    pairs = clash_pairs(office)
    if not isinstance(thing, dict) or len(thing) != len(pairs):
        return False
    lots = lots_bits(office.book)
    table = lasts(office)
    for pair in pairs:
        if pair not in thing or not is_number(thing[pair]):
            return False
        if thing[pair] not in third_lots(lots, table, pair):
            return False
    return True


def clash(office):
    """The least clash pair without a third lot, or None."""
    lots = lots_bits(office.book)
    table = lasts(office)
    for pair in clash_pairs(office):
        if not third_lots(lots, table, pair):
            return pair
    return None


def recall(office):
    """A crowd, a comer, and one who is out of the crowd, but let in together with the comer, or None."""
    ins = ins_table(office)
    for bits in range(len(ins)):
        for comer in range(office.book.people):
            wider = bits | (1 << comer)
            back = (bits ^ ins[bits]) & ins[wider]
            if wider != bits and back:
                return (crowd_of(bits), comer, crowd_of(back)[0])
    return None


def is_recall(office, thing):
    """Whether a thing is a crowd, a comer, and one of the crowd whom the comer calls back."""
    people = office.book.people
    if not is_tuple_of(thing, 3) or not is_crowd(people, thing[0]):
        return False
    crowd, comer, person = thing
    if not is_person(people, comer) or not is_person(people, person) or comer in crowd or person not in crowd:
        return False
    bits = bits_of(crowd)
    return not has(bits_in(office, bits), person) and has(bits_in(office, bits | (1 << comer)), person)


def last_in(office):
    """A crowd and the number of a lot within it whose last is let in, or None."""
    ins = ins_table(office)
    lots = lots_bits(office.book)
    table = lasts(office)
    for bits in range(len(ins)):
        for number in range(len(lots)):
            if (lots[number] & bits) == lots[number] and has(ins[bits], table[number]):
                return (crowd_of(bits), number)
    return None


def is_last_in(office, thing):
    """Whether a thing is a crowd and the number of a lot within it whose last is let in."""
    book = office.book
    if not is_tuple_of(thing, 2) or not is_crowd(book.people, thing[0]) or not is_below(len(book.lots), thing[1]):
        return False
    crowd, number = thing
    bits = bits_of(crowd)
    lot = lots_bits(book)[number]
    return (lot & bits) == lot and has(bits_in(office, bits), lasts(office)[number])


def below_unlike(office):
    """A crowd of which others are left from below than are let in, or None."""
    ins = ins_table(office)
    others = others_by_last(office)
    for bits in range(len(ins)):
        if bits_left(office, others, bits) != ins[bits]:
            return crowd_of(bits)
    return None


def is_below_unlike(office, thing):
    """Whether a thing is a crowd of which others are left from below than are let in."""
    if not is_crowd(office.book.people, thing):
        return False
    bits = bits_of(thing)
    return bits_left(office, others_by_last(office), bits) != bits_in(office, bits)

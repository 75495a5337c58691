"""By lot: who is let in, and how often, when all lists are as likely."""

from lastoflot.books import check_crowd_of, lots_bits
from lastoflot.crowds import bits_of, count_of, crowd_of, has, holds_any, lowest
from lastoflot.errors import TooMany

MOST_IN_CROWD = 8


def ways_to_outcomes(book, crowd):
    """For each crowd, as bits, that is let in from a crowd, with how many of the orders of that it is."""
    check_crowd_of(book, crowd)
    if len(crowd) > MOST_IN_CROWD:
        raise TooMany(MOST_IN_CROWD)
    lots = lots_bits(book)
    # Who is not of the crowd is never in, so all orders of the crowd alone come as often.
    ways = {(0, 0): 1}
    for _ in crowd:
        ways = one_further(lots, bits_of(crowd), ways)
    return {inside: ways[(came, inside)] for came, inside in ways}


def one_further(lots, bits, ways):
    """In how many orders so many came and so many are in, all kept as bits, told for one comer less."""
    found = {}
    for came, inside in ways:
        for person in crowd_of(bits ^ came):
            own = 1 << person
            wider = inside
            if not holds_any(inside | own, lots):
                wider = inside | own
            found[(came | own, wider)] = found.get((came | own, wider), 0) + ways[(came, inside)]
    return found


def chances(book, crowd):
    """For each person of a crowd the fraction of all lists with which this one is let in."""
    ways = ways_to_outcomes(book, crowd)
    every = sum(ways.values())
    found = {}
    for person in crowd:
        found[person] = lowest(sum([ways[inside] for inside in ways if has(inside, person)]), every)
    return found


def mean_number(book, crowd):
    """The fraction that tells how many are let in, in the mean over all lists."""
    ways = ways_to_outcomes(book, crowd)
    return lowest(sum([ways[inside] * count_of(inside) for inside in ways]), sum(ways.values()))


def outcomes_by_lot(book, crowd):
    """For each crowd that some list lets in from a crowd the fraction of all lists that do so."""
    ways = ways_to_outcomes(book, crowd)
    every = sum(ways.values())
    return {crowd_of(inside): lowest(ways[inside], every) for inside in ways}

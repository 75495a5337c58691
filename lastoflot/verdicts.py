"""Verdicts: what is sure of all lists that fit what was seen."""

from lastoflot.books import bases, check_crowd_of
from lastoflot.crowds import all_crowds, bits_of, has
from lastoflot.errors import NoList, TooMany
from lastoflot.sightings import all_needs, check_sightings, least_fitting, order_by

MOST_IN_CROWD = 8
MOST_PEOPLE = 6


def check_some_fits(book, sightings):
    """Raises an error unless some list fits."""
    if least_fitting(book, sightings) is None:
        raise NoList()


def surely_ahead(book, sightings):
    """The ascending list of the pairs of which the former stands ahead of the latter in all lists that fit."""
    check_sightings(book, sightings)
    check_some_fits(book, sightings)
    needs = all_needs(book, sightings)
    people = range(book.people)
    found = []
    for elder in people:
        own = 1 << elder
        # Whoever can be placed without the elder stands ahead of it in some list, and nobody else does.
        free = own | bits_of(order_by(needs, own))
        found.extend([(elder, person) for person in people if not has(free, person)])
    return found


def outcomes_that_fit(book, sightings, crowd):
    """The ascending list of the crowds that the lists that fit let in from a crowd."""
    return [inside for inside in bases(book, crowd) if least_fitting(book, [*sightings, (crowd, inside)]) is not None]


def verdicts(book, sightings, crowd):
    """For each person of a crowd whether all, none or some of the lists that fit let this one in."""
    check_sightings(book, sightings)
    check_crowd_of(book, crowd)
    check_some_fits(book, sightings)
    if len(crowd) > MOST_IN_CROWD:
        raise TooMany(MOST_IN_CROWD)
    found = outcomes_that_fit(book, sightings, crowd)
    return {person: verdict_in(found, person) for person in crowd}


def verdict_in(found, person):
    """The verdict on a person, by all crowds that may be let in."""
    flags = [person in inside for inside in found]
    if all(flags):
        return "in"
    if any(flags):
        return "open"
    return "out"


def parted_by(book, sightings):
    """The crowd, fewest first, from which not all lists that fit let in the same, or None."""
    check_sightings(book, sightings)
    check_some_fits(book, sightings)
    if book.people > MOST_PEOPLE:
        raise TooMany(MOST_PEOPLE)
    for crowd in all_crowds(book.people):
        if len(outcomes_that_fit(book, sightings, crowd)) > 1:
            return crowd
    return None

"""Keepers: functions that tell for each row who is held in and who waits."""

from itertools import permutations

from lastoflot.crowds import bits_of, is_crowd, is_tuple_of
from lastoflot.errors import TooMany
from lastoflot.offices import ins_table
from lastoflot.waiting import check_many

MOST_PEOPLE = 5


def wrong_row(office, many, keeper):
    """The row, fewest first, behind which first something is wrong with a keeper, or None."""
    people = office.book.people
    if people > MOST_PEOPLE:
        raise TooMany(MOST_PEOPLE)
    check_many(many)
    ins = ins_table(office)
    there = {(): 0}
    for row in all_rows(people):
        told = keeper(row)
        if not is_parted(people, told) or bits_of(told[0]) != ins[bits_of(row)] or len(told[1]) > many:
            return row
        held = bits_of(told[0] + told[1])
        may_be_held = there[row[:-1]] | (1 << row[-1])
        if (held | may_be_held) != may_be_held:
            return row
        there[row] = held
    return None


def all_rows(people):
    """All rows of one or more of so many people, fewest first."""
    return [row for size in range(1, people + 1) for row in permutations(range(people), size)]


def is_parted(people, thing):
    """Whether a thing is a pair of crowds without a person in both."""
    if not is_tuple_of(thing, 2) or not is_crowd(people, thing[0]) or not is_crowd(people, thing[1]):
        return False
    return (bits_of(thing[0]) & bits_of(thing[1])) == 0

"""Books of kinds: comers of a few kinds, in rows of whatever length."""

from lastoflot.crowds import is_below, is_number, is_tuple_of
from lastoflot.errors import BadKinds, NoKind, NoKinds, NoNumber, OtherKinds

MOST_KINDS = 3
MOST_LOTS = 12
MOST_OF_KIND = 4
MOST_COMERS = 200


class Kinds:
    """So many kinds, and the ascending lots of counts of them, none at most another one."""

    def __init__(self, many, lots):
        if not is_number(many) or not 1 <= many <= MOST_KINDS:
            raise BadKinds("many", -1)
        if not isinstance(lots, tuple) or len(lots) > MOST_LOTS:
            raise BadKinds("lots", -1)
        at = first_wrong(many, lots)
        if at is not None:
            raise BadKinds("lots", at)
        self.many = many
        self.lots = lots

    def __eq__(self, other):
        return isinstance(other, Kinds) and self.many == other.many and self.lots == other.lots


def first_wrong(many, lots):
    """The number of the first item that cannot stand behind those ahead of it, or None."""
    for at in range(len(lots)):
        lot = lots[at]
        if not is_counts(many, lot):
            return at
        if at > 0 and lot <= lots[at - 1]:
            return at
        # It is greater than all those ahead by now, so it cannot be at most one of them.
        if any([is_at_most(other, lot) for other in lots[:at]]):
            return at
    return None


def is_counts(many, thing):
    """Whether a thing is counts of so many kinds, two or more together."""
    if not is_tuple_of(thing, many) or not all([is_below(MOST_OF_KIND + 1, count) for count in thing]):
        return False
    return sum(thing) >= 2


def is_at_most(one, other):
    """Whether some counts are at most other ones for each kind."""
    return all([count <= bound for count, bound in zip(one, other)])


def is_kind(kinds, thing):
    """Whether a thing is a kind."""
    return is_below(kinds.many, thing)


def is_row_of_kinds(kinds, thing):
    """Whether a thing is a tuple of kinds, not too many of them."""
    if not isinstance(thing, tuple) or len(thing) > MOST_COMERS:
        return False
    return all([is_kind(kinds, kind) for kind in thing])


def check_row(kinds, row):
    """Raises an error unless this is a row of kinds."""
    if not is_row_of_kinds(kinds, row):
        raise NoKinds()


def nobody(kinds):
    """The counts when nobody has come."""
    return (0,) * kinds.many


def with_one(counts, kind):
    """Some counts with one more of a kind."""
    return (*counts[:kind], counts[kind] + 1, *counts[kind + 1:])


def enters(kinds, counts, kind):
    """Whether a comer is let in when so many of each kind have been."""
    more = with_one(counts, kind)
    return not any([is_at_most(lot, more) for lot in kinds.lots])


def walked(kinds, counts, row):
    """The flags which comers of a row are let in when so many have been, and the counts behind it."""
    flags = []
    now = counts
    for kind in row:
        flag = enters(kinds, now, kind)
        if flag:
            now = with_one(now, kind)
        flags.append(flag)
    return (flags, now)


def entered(kinds, row):
    """The list of flags which comers of a row are let in."""
    check_row(kinds, row)
    return walked(kinds, nobody(kinds), row)[0]


def entered_counts(kinds, row):
    """How many of each kind are let in from a row."""
    check_row(kinds, row)
    return walked(kinds, nobody(kinds), row)[1]


def counts_after(kinds, row, times):
    """How many of each kind are let in from a row that comes so many times."""
    check_row(kinds, row)
    if not is_below(10 ** 30 + 1, times):
        raise NoNumber()
    bounds = bounds_of(kinds)
    counts = nobody(kinds)
    left = times
    while left > 0:
        behind = walked(kinds, counts, row)[1]
        # Once the row changes nothing up to the bounds, it lets in the same comers each time from then on.
        if bounded(bounds, behind) == bounded(bounds, counts):
            return tuple([now + (then - now) * left for now, then in zip(counts, behind)])
        counts = behind
        left = left - 1
    return counts


def bounds_of(kinds):
    """For each kind the greatest number that some lot has of it: whatever is more tells no comer apart."""
    return tuple([greatest_count(kinds, kind) for kind in range(kinds.many)])


def greatest_count(kinds, kind):
    """The greatest number that some lot has of a kind, 0 if there are no lots."""
    return max([lot[kind] for lot in kinds.lots], default=0)


def bounded(bounds, counts):
    """Some counts, each told at most up to its bound."""
    return tuple([min(count, bound) for count, bound in zip(counts, bounds)])


def least_rows(kinds, bounds):
    """The dict from all counts that can be come to, told up to bounds, to the row, fewest first, that leads there."""
    found = {nobody(kinds): ()}
    front = [nobody(kinds)]
    while front:
        reached = []
        # Those ahead in the front have the least rows, so whatever is met first is met by its least row.
        for counts in front:
            for kind in range(kinds.many):
                behind = bounded(bounds, walked(kinds, counts, (kind,))[1])
                if behind not in found:
                    found[behind] = (*found[counts], kind)
                    reached.append(behind)
        front = reached
    return found


def unlike_row(one, other):
    """The row, fewest first, of which two books of kinds let in unlike comers, or None."""
    if one.many != other.many:
        raise OtherKinds()
    # Up to the first comer whom just one of them lets in, both have let in the same.
    bounds = tuple([max(pair) for pair in zip(bounds_of(one), bounds_of(other))])
    rows = least_rows(one, bounds)
    for counts in rows:
        for kind in range(one.many):
            if enters(one, counts, kind) != enters(other, counts, kind):
                return (*rows[counts], kind)
    return None


def passing_row(kinds, a, b):
    """The row, fewest first, behind which a and b fare otherwise than b and a, or None."""
    if not is_kind(kinds, a) or not is_kind(kinds, b) or a == b:
        raise NoKind()
    rows = least_rows(kinds, bounds_of(kinds))
    for counts in rows:
        if walked(kinds, counts, (a, b))[0] != walked(kinds, counts, (b, a))[0][::-1]:
            return rows[counts]
    return None


def may_pass(kinds, a, b):
    """Whether two neighbouring comers of two kinds can change places in every row."""
    # Where both fare as before, as many of each kind are in behind them: so all others fare as before, too.
    return passing_row(kinds, a, b) is None

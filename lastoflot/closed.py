"""Books of kinds in which nobody is ever called back, whatever the length of the row."""

from lastoflot.crowds import is_below, is_tuple_of
from lastoflot.kinds import bounded, bounds_of, enters, is_kind, is_row_of_kinds, least_rows, nobody, walked


def steady_kinds(kinds):
    """Whether in every row whoever is out stays out, whatever one more comer is put in ahead."""
    return called_back(kinds) is None


def called_back(kinds):
    """A row, a place in it and a kind such that one more comer there lets in somebody who was out, or None."""
    found = pairs_met(kinds)
    for one, other in found:
        for kind in range(kinds.many):
            if not enters(kinds, one, kind) and enters(kinds, other, kind):
                row, place, newcomer = found[(one, other)]
                return ((*row, kind), place, newcomer)
    return None


def moves_of(kinds):
    """The dict from all counts that can be come to, up to the bounds, to the counts behind one more of each kind."""
    bounds = bounds_of(kinds)
    rows = least_rows(kinds, bounds)
    return {counts: [moved(kinds, bounds, counts, kind) for kind in range(kinds.many)] for counts in rows}


def moved(kinds, bounds, counts, kind):
    """The counts behind one more comer, up to the bounds."""
    return bounded(bounds, walked(kinds, counts, (kind,))[1])


def pairs_met(kinds):
    """The dict from all pairs of a row's counts and those with one more comer to such a row, place and kind."""
    rows = least_rows(kinds, bounds_of(kinds))
    moves = moves_of(kinds)
    found = {}
    for counts in rows:
        for newcomer in range(kinds.many):
            found.setdefault((counts, moves[counts][newcomer]), (rows[counts], len(rows[counts]), newcomer))
    front = list(found)
    while front:
        reached = []
        for one, other in front:
            row, place, newcomer = found[(one, other)]
            for kind in range(kinds.many):
                behind = (moves[one][kind], moves[other][kind])
                if behind not in found:
                    found[behind] = ((*row, kind), place, newcomer)
                    reached.append(behind)
        front = reached
    return found


def is_called_back(kinds, thing):
    """Whether a thing is a row, a place in it and a kind such that one more comer lets in somebody who was out."""
    if not is_tuple_of(thing, 3) or not is_row_of_kinds(kinds, thing[0]):
        return False
    row, place, newcomer = thing
    if not is_below(len(row), place) or not is_kind(kinds, newcomer):
        return False
    before = walked(kinds, nobody(kinds), row)[0]
    after = walked(kinds, nobody(kinds), (*row[:place], newcomer, *row[place:]))[0]
    return any([not before[k] and after[k + 1] for k in range(place, len(row))])


def steady_table(kinds):
    """The ascending tuple of all pairs of counts let in without and with one more comer, or None if not steady."""
    if not steady_kinds(kinds):
        return None
    return tuple(sorted(pairs_met(kinds)))

"""What the tests of kinds share: the document's words taken plainly, and books of kinds to try."""

import random
from itertools import product

from lastoflot.kinds import Kinds
from tests import plain


def at_most(one, other):
    return all(count <= bound for count, bound in zip(one, other))


def entered(kinds, row):
    """The flags which comers are let in, and how many of each kind."""
    flags, inside = [], [0] * kinds.many
    for kind in row:
        more = inside[:kind] + [inside[kind] + 1] + inside[kind + 1:]
        flags.append(not any(at_most(lot, more) for lot in kinds.lots))
        if flags[-1]:
            inside = more
    return flags, tuple(inside)


def rows(many, longest):
    """All rows of so many kinds, fewest first, up to so many comers."""
    return [row for size in range(longest + 1) for row in product(range(many), repeat=size)]


def least_ones(counts):
    """The ascending tuple of those counts that no other, unlike one is at most."""
    return tuple(sorted({one for one in counts if not any(other != one and at_most(other, one) for other in counts)}))


def random_kinds(rand, many, most, greatest):
    """A book of so many kinds with at most so many lots of counts up to so many."""
    counts = []
    for _ in range(most):
        lot = tuple(rand.randint(0, greatest) for _ in range(many))
        if sum(lot) >= 2:
            counts.append(lot)
    return Kinds(many, least_ones(counts)[:12])


def small_kinds():
    """Books of one kind, and all of two kinds with counts up to two."""
    found = [Kinds(1, ())] + [Kinds(1, ((count,),)) for count in (2, 3, 4)]
    lots = [()]
    for count in [count for count in product(range(3), repeat=2) if sum(count) >= 2]:
        lots += [some + (count,) for some in lots
                 if not any(at_most(count, one) or at_most(one, count) for one in some)]
    return found + [Kinds(2, tuple(sorted(some))) for some in lots]


def fair_kinds(seed=191):
    """Small books of kinds, and some of two and three kinds with greater counts."""
    rand = random.Random(seed)
    found = small_kinds() + [random_kinds(rand, 2, most, 4) for most in (1, 2, 3, 4, 6) for _ in range(3)]
    return found + [random_kinds(rand, 3, most, 2) for most in (0, 1, 2, 3, 5, 8) for _ in range(4)]


def great_kinds(seed=192):
    """Books of three kinds with counts up to four, the last ones of 12 lots."""
    rand = random.Random(seed)
    found = [random_kinds(rand, 3, most, 4) for most in (1, 2, 3, 5, 8, 12, 20)]
    fours = [lot for lot in product(range(5), repeat=3) if sum(lot) == 6]
    for _ in range(3):
        found.append(Kinds(3, tuple(sorted(rand.sample(fours, 12)))))
    return found + [Kinds(3, ((4, 4, 4),)), Kinds(3, ((0, 4, 4), (4, 0, 4), (4, 4, 0)))]


def is_kind(kinds, thing):
    return plain.is_plain_number(thing) and 0 <= thing < kinds.many


def is_row(kinds, thing):
    return isinstance(thing, tuple) and len(thing) <= 200 and all(is_kind(kinds, kind) for kind in thing)


def bad_rows(many):
    """Things that are no row of so many kinds."""
    kinds = Kinds(many, ())
    wrong = [thing for thing in plain.strange() if not is_row(kinds, thing)]
    return wrong + [(many,), (0, many), (-1,), (0, -1), [0], [], (0,) * 201, (False,), (0, False), "0", ("0",), ((0,),),
                    (0, None), {0: 0}, (0,) * 200 + (None,)]


def bad_kinds(many):
    """Things that are no kind."""
    return [thing for thing in plain.strange() if not is_kind(Kinds(many, ()), thing)] + [many, -1, "0", (0,)]

"""What the tests share: the document's words taken plainly, books to try, and things of every kind."""

import copy
import random
from itertools import combinations, permutations, product

from lastoflot.books import Book
from lastoflot.errors import NoCrowd
from lastoflot.kinds import Kinds
from lastoflot.offices import Office


def crowds(people):
    """All crowds, fewest first."""
    return [crowd for size in range(people + 1) for crowd in combinations(range(people), size)]


def lists(people):
    """All lists, ascending."""
    return list(permutations(range(people)))


def within(one, other):
    return set(one) <= set(other)


def is_clear(lots, crowd):
    return not any(within(lot, crowd) for lot in lots)


def last(order, lot):
    return max(lot, key=order.index)


def table(lots, order):
    return tuple(last(order, lot) for lot in lots)


def let_in(lots, order, crowd):
    inside = set()
    for person in order:
        if person in crowd:
            if not any(last(order, lot) == person and set(lot) - {person} <= inside for lot in lots):
                inside.add(person)
    return tuple(sorted(inside))


def left(crowd, inside):
    return tuple(sorted(set(crowd) - set(inside)))


def joined(one, other):
    return tuple(sorted(set(one) | set(other)))


def ins(office):
    """The dict from all crowds to those let in."""
    lots, order = office.book.lots, office.order
    return {crowd: let_in(lots, order, crowd) for crowd in crowds(office.book.people)}


def from_below(lots, order, crowd):
    there = set(crowd)
    for person in reversed(order):
        if person in there and any(last(order, lot) == person and set(lot) <= there for lot in lots):
            there.remove(person)
    return tuple(sorted(there))


def is_steady(office):
    inside = ins(office)
    for crowd in inside:
        gone = left(crowd, inside[crowd])
        for wider in inside:
            if within(crowd, wider) and set(gone) & set(inside[wider]):
                return False
    return True


def least_ones(heaps):
    """The ascending tuple of those heaps within which no other, unlike one is."""
    kept = [heap for heap in heaps if not any(other != heap and within(other, heap) for other in heaps)]
    return tuple(sorted(set(kept)))


def random_book(rand, people, many):
    """A book of so many people with at most so many lots."""
    heaps = []
    for _ in range(many):
        size = rand.randint(2, max(2, min(people, 4)))
        if people >= 2:
            heaps.append(tuple(sorted(rand.sample(range(people), size))))
    return Book(people, least_ones(heaps))


def small_books():
    """Books of one to four people: all of up to three, and some of four."""
    found = [Book(1, ()), Book(2, ()), Book(2, ((0, 1),)), Book(3, ((0, 1, 2),))]
    pairs = ((0, 1), (0, 2), (1, 2))
    for size in range(4):
        found += [Book(3, chosen) for chosen in combinations(pairs, size)]
    found += [
        Book(4, ()),
        Book(4, ((0, 1), (1, 2), (2, 3))),
        Book(4, ((0, 1), (0, 3), (1, 2), (2, 3))),
        Book(4, tuple(combinations(range(4), 2))),
        Book(4, tuple(combinations(range(4), 3))),
        Book(4, ((0, 1), (2, 3))),
        Book(4, ((0, 1, 2), (1, 3))),
        Book(4, ((0, 1, 2), (0, 1, 3), (2, 3))),
        Book(4, ((0, 1, 2, 3),)),
        Book(4, ((0, 1, 2), (1, 2, 3))),
    ]
    return found


def fair_books():
    """Small books, and some of five people."""
    rand = random.Random(7)
    return small_books() + [random_book(rand, 5, many) for many in (2, 3, 4, 5, 7, 9)]


def some_offices(each=4, seed=11):
    """Offices of small and fair books, each with a few lists."""
    rand = random.Random(seed)
    found = []
    for book in fair_books():
        orders = lists(book.people)
        for order in rand.sample(orders, min(each, len(orders))):
            found.append(Office(book, order))
    return found


def great_books():
    """Books of nine to twelve people, the last ones of 60 lots."""
    rand = random.Random(5)
    found = [random_book(rand, people, many) for people, many in ((9, 6), (10, 9), (11, 12), (12, 14))]
    pairs = list(combinations(range(12), 2))
    found.append(Book(12, tuple(sorted(rand.sample(pairs, 60)))))
    triples = list(combinations(range(12), 3))
    found.append(Book(12, tuple(sorted(rand.sample(triples, 60)))))
    return found


def great_offices(seed=3):
    """One office of each great book."""
    rand = random.Random(seed)
    return [Office(book, tuple(rand.sample(range(book.people), book.people))) for book in great_books()]


def nested(make, depth):
    """Something that lies in so many layers."""
    thing = 0
    for _ in range(depth):
        thing = make(thing)
    return thing


def strange():
    """Things of every kind, none of them a right one anywhere but the small numbers and ()."""
    book = Book(2, ((0, 1),))
    return [
        None, True, False, -1, 10 ** 59, -10 ** 59, "", "0", "both", b"", b"\x00\x01", bytearray(b"\x01"),
        memoryview(b"\x00"), range(3), slice(0, 2), ..., NotImplemented, int, tuple, len, "".join, strange,
        iter(()), (k for k in (0, 1)), object(), book, Office(book, (0, 1)), Book, NoCrowd(), NoCrowd,
        [], [0], [0, 1], {}, {0: 1}, {(0, 1): 0}, {0: (1,)}, {None: [1]},
        (None,), (True,), (False, True), (0, True), ("0", "1"), (b"0",), ([0], [1]), ((0,), (1,)), ((), ()),
        ((), {}), ((0,), [0]), ([], 0), ({}, {}), (0, None), (None, 0, 1), (book,), (book, book), ((book,), 0),
        (-1, 0), (0, 10 ** 59), (0, 0), (0, -1), ("both", 0, None), (("both",), 0, 1), ((0, 1), book),
        nested(lambda thing: (thing,), 40), nested(lambda thing: [thing], 40),
        nested(lambda thing: {0: thing}, 40), nested(lambda thing: (0, thing), 40),
        nested(lambda thing: (thing, 1), 40), nested(lambda thing: ((), thing), 39),
        (0,) * 20000, [0] * 20000, tuple(range(20000)), ((0, 1),) * 6000, "x" * 20000,
        {k: k for k in range(9000)}, ((), {k: () for k in range(6000)}),
    ]


def bad_crowds(people):
    """Things that are no crowd of so many people."""
    wrong = [thing for thing in strange() if not is_plain_crowd(people, thing)]
    wrong += [(people,), (0, people), (-1,), tuple(range(people + 1)), (0, 0), list(range(people)), [], (0.5 > 1,)]
    if people >= 2:
        wrong += [(1, 0), (0, 1, 1), (True, 1), (0, True), [0, 1]]
    return wrong


def bad_lists(people):
    """Things that are no list of so many people."""
    right = tuple(range(people))
    wrong = [thing for thing in strange() if not is_plain_list(people, thing)]
    wrong += [list(right), right[1:], right + (people,), right[:-1] + (people,), right + right[:1]]
    if people >= 2:
        wrong += [(False, True) + right[2:], (1,) + right[1:], (0, True) + right[2:], (-1,) + right[1:]]
    return wrong


def bad_persons(people):
    """Things that are no person of so many people."""
    return [thing for thing in strange() if not is_plain_number(thing) or not 0 <= thing < people] + [people, -1]


def bad_numbers():
    """Things that are no number from 0 on."""
    return [thing for thing in strange() if not is_plain_number(thing) or thing < 0]


def is_plain_number(thing):
    return isinstance(thing, int) and not isinstance(thing, bool)


def is_plain_crowd(people, thing):
    if not isinstance(thing, tuple) or not all(is_plain_number(item) for item in thing):
        return False
    return thing in crowds(min(people, 12))


def is_plain_list(people, thing):
    if not isinstance(thing, tuple) or not all(is_plain_number(item) for item in thing):
        return False
    return sorted(thing) == list(range(people))


def is_plain_crowds(people, thing):
    """Whether a thing is a list or tuple of at most 60 crowds."""
    return isinstance(thing, (list, tuple)) and len(thing) <= 60 and all(is_plain_crowd(people, one) for one in thing)


def random_crowd(rand, people):
    return tuple(sorted(rand.sample(range(people), rand.randint(0, people))))


def clear_sizes(lots, crowd):
    """The number of the people of each clear crowd within a crowd."""
    return [size for size in range(len(crowd) + 1) for part in combinations(crowd, size) if is_clear(lots, part)]


def at_most(one, other):
    return all(count <= bound for count, bound in zip(one, other))


def entered(kinds, row):
    """The flags which comers are let in, and how many of each kind."""
    flags, inside = [], [0] * kinds.many
    for kind in row:
        more = inside[:kind] + [inside[kind] + 1] + inside[kind + 1:]
        flags.append(not any(at_most(lot, more) for lot in kinds.lots))
        if flags[-1]:
            inside = more
    return flags, tuple(inside)


def kind_rows(many, longest):
    """All rows of so many kinds, fewest first, up to so many comers."""
    return [row for size in range(longest + 1) for row in product(range(many), repeat=size)]


def least_counts(counts):
    """The ascending tuple of those counts that no other, unlike one is at most."""
    return tuple(sorted({one for one in counts if not any(other != one and at_most(other, one) for other in counts)}))


def random_kinds(rand, many, most, greatest):
    """A book of so many kinds with at most so many lots of counts up to so many."""
    counts = []
    for _ in range(most):
        lot = tuple(rand.randint(0, greatest) for _ in range(many))
        if sum(lot) >= 2:
            counts.append(lot)
    return Kinds(many, least_counts(counts)[:12])


def small_kinds():
    """Books of one kind, and all of two kinds with counts up to two."""
    found = [Kinds(1, ())] + [Kinds(1, ((count,),)) for count in (2, 3, 4)]
    lots = [()]
    for count in [count for count in product(range(3), repeat=2) if sum(count) >= 2]:
        lots += [some + (count,) for some in lots
                 if not any(at_most(count, one) or at_most(one, count) for one in some)]
    return found + [Kinds(2, tuple(sorted(some))) for some in lots]


def fair_kinds(seed=191):
    """Small books of kinds, and some of two and three kinds with greater counts."""
    rand = random.Random(seed)
    found = small_kinds() + [random_kinds(rand, 2, most, 4) for most in (1, 2, 3, 4, 6) for _ in range(3)]
    return found + [random_kinds(rand, 3, most, 2) for most in (0, 1, 2, 3, 5, 8) for _ in range(4)]


def great_kinds(seed=192):
    """Books of three kinds with counts up to four, the last ones of 12 lots."""
    rand = random.Random(seed)
    found = [random_kinds(rand, 3, most, 4) for most in (1, 2, 3, 5, 8, 12, 20)]
    fours = [lot for lot in product(range(5), repeat=3) if sum(lot) == 6]
    for _ in range(3):
        found.append(Kinds(3, tuple(sorted(rand.sample(fours, 12)))))
    return found + [Kinds(3, ((4, 4, 4),)), Kinds(3, ((0, 4, 4), (4, 0, 4), (4, 4, 0)))]


def is_plain_kind(kinds, thing):
    return is_plain_number(thing) and 0 <= thing < kinds.many


def is_plain_kind_row(kinds, thing):
    return isinstance(thing, tuple) and len(thing) <= 200 and all(is_plain_kind(kinds, kind) for kind in thing)


def bad_kind_rows(many):
    """Things that are no row of so many kinds."""
    kinds = Kinds(many, ())
    wrong = [thing for thing in strange() if not is_plain_kind_row(kinds, thing)]
    return wrong + [(many,), (0, many), (-1,), (0, -1), [0], [], (0,) * 201, (False,), (0, False), "0", ("0",), ((0,),),
                    (0, None), {0: 0}, (0,) * 200 + (None,)]


def bad_kinds(many):
    """Things that are no kind."""
    return [thing for thing in strange() if not is_plain_kind(Kinds(many, ()), thing)] + [many, -1, "0", (0,)]


class Checks:
    """What test cases do besides what unittest gives them."""

    def raises(self, kind, call, *values, **fields):
        """Checks that a call raises just this error, with these fields, and leaves its arguments as they are."""
        with self.assertRaises(kind) as caught:
            call(*values)
        self.assertIs(caught.exception.__class__, kind)
        self.assertEqual(vars(caught.exception), fields)

    def refuses(self, call, *values, things):
        """Checks that a judging function answers False, as a flag, to each thing."""
        for thing in things:
            answer = call(*values, thing)
            self.assertIs(answer, False, repr(thing)[:200])

    def accepts(self, call, *values):
        self.assertIs(call(*values), True, repr(values[-1])[:200])

    def same_flag(self, wanted, answer, *told):
        """Checks that an answer is a flag, and this one."""
        self.assertIs(answer, bool(wanted), told)

    def leaves(self, call, *values):
        """Checks that a call leaves its arguments as they were, and returns the result."""
        before = copy.deepcopy(values)
        result = call(*values)
        self.assertEqual(before, values)
        return result

    def is_new(self, call, *values):
        """Checks that lists and dicts are new each time: what is done to one does nothing to the next one."""
        first = call(*values)
        wanted = copy.deepcopy(first)
        spoil(first)
        again = call(*values)
        self.assertEqual(again, wanted)
        self.assertIs(again.__class__, wanted.__class__)


def spoil(thing):
    """Changes each list and dict in a result."""
    if isinstance(thing, tuple):
        for item in thing:
            spoil(item)
    if isinstance(thing, dict):
        for key in list(thing):
            spoil(thing[key])
        thing[("spoilt",)] = 1
    if isinstance(thing, list):
        for item in thing:
            spoil(item)
        thing.append("spoilt")

"""Questions about a list that one does not know (14.1)."""

import random
import unittest
from itertools import combinations, permutations

from lastoflot.asking import asked_least, asking_tree, is_asking_tree
from lastoflot.books import Book
from lastoflot.errors import NoNumber, TooMany
from tests import plain
from tests.plain import Checks, strange

ROW = Book(3, ((0, 1), (1, 2)))
FIVE = Book(5, ((0, 1),))
RIGHT = (0, 1, (1, 2, ("told", (1, 2)), ("told", (1, 1))), (1, 2, ("told", (0, 2)), ("told", (0, 1))))


def all_books(people):
    """All books of so many people."""
    found = [()]
    for lot in [crowd for crowd in plain.crowds(people) if len(crowd) > 1]:
        found += [lots + (lot,) for lots in found if plain.is_clear(lots, lot)]
    return [Book(people, tuple(sorted(lots))) for lots in found]


def parted(orders, a, b):
    """The lists with a ahead of b, and those with b ahead of a."""
    ahead = frozenset(order for order in orders if order.index(a) < order.index(b))
    return ahead, orders - ahead


def is_enough(book, orders, many, known):
    """Whether so many questions are enough for these lists, by going through all of them."""
    if (orders, many) not in known:
        known[(orders, many)] = len({plain.table(book.lots, order) for order in orders}) == 1 or (
            many > 0 and any(all(is_enough(book, part, many - 1, known) for part in parted(orders, a, b))
                             for a, b in combinations(range(book.people), 2) if all(parted(orders, a, b))))
    return known[(orders, many)]


def plain_least(book):
    orders = frozenset(plain.lists(book.people))
    known = {}
    return next(many for many in range(10) if is_enough(book, orders, many, known))


def is_plain_tree(book, orders, most, thing):
    """The document's words, for things that are made of tuples, words and numbers."""
    if not isinstance(thing, tuple) or len(thing) not in (2, 4):
        return False
    if len(thing) == 2:
        return thing[0] == "told" and all(plain.table(book.lots, order) == thing[1] for order in orders)
    a, b, one, other = thing
    people = range(book.people)
    if most < 1 or a not in people or b not in people or a == b:
        return False
    ahead, behind = parted(orders, a, b)
    return bool(ahead and behind) and is_plain_tree(book, ahead, most - 1, one) and is_plain_tree(
        book, behind, most - 1, other)


def depth(tree):
    return 0 if len(tree) == 2 else 1 + max(depth(tree[2]), depth(tree[3]))


def places(tree):
    """The ways to all trees within a tree, itself among them."""
    found = [()]
    if len(tree) == 4:
        found += [(at,) + way for at in (2, 3) for way in places(tree[at])]
    return found


def at(tree, way):
    return at(tree[way[0]], way[1:]) if way else tree


def put(tree, way, thing):
    """A tree with another thing at the end of a way."""
    if not way:
        return thing
    return tree[:way[0]] + (put(tree[way[0]], way[1:], thing),) + tree[way[0] + 1:]


def random_tree(rand, book, orders, longest):
    """A right tree, with questions that need not be, or told early if none may follow."""
    tables = {plain.table(book.lots, order) for order in orders}
    pairs = [pair for pair in permutations(range(book.people), 2) if all(parted(orders, *pair))]
    if not pairs or (len(tables) == 1 and rand.random() < 0.7) or longest == 0:
        return ("told", rand.choice(sorted(tables)))
    a, b = rand.choice(pairs)
    return (a, b, *[random_tree(rand, book, part, longest - 1) for part in parted(orders, a, b)])


class LeastTest(Checks, unittest.TestCase):
    def told(self, book):
        wanted = plain_least(book)
        self.assertEqual(asked_least(book), wanted, book.lots)
        tree = asking_tree(book)
        self.assertIsInstance(tree, tuple)
        self.assertEqual(depth(tree), wanted, book.lots)
        every = frozenset(plain.lists(book.people))
        for most in (wanted, wanted + 1, 10 ** 59):
            self.assertTrue(is_plain_tree(book, every, most, tree), book.lots)
            self.accepts(is_asking_tree, book, most, tree)
        if wanted:
            self.refuses(is_asking_tree, book, wanted - 1, things=[tree])

    def test_all_small_books(self):
        for people in (1, 2, 3, 4):
            for book in all_books(people):
                self.told(book)

    def test_named(self):
        self.assertEqual(asked_least(ROW), 2)
        self.assertEqual(asked_least(Book(3, ((0, 1), (0, 2), (1, 2)))), 3)
        self.assertEqual(asked_least(Book(3, ((0, 1, 2),))), 2)
        self.assertEqual(asked_least(Book(4, tuple(combinations(range(4), 2)))), 5)
        self.assertEqual(asked_least(Book(4, ((0, 1, 2, 3),))), 3)

    def test_nothing_to_ask(self):
        for people in (1, 2, 3, 4):
            book = Book(people, ())
            self.assertEqual(asked_least(book), 0)
            self.assertEqual(asking_tree(book), ("told", ()))
            self.accepts(is_asking_tree, book, 0, ("told", ()))
            self.refuses(is_asking_tree, book, 0, things=strange() + [("told", []), ("told", (0,)), ("told",), ((), "told")])
        # What need not be asked may be asked.
        self.accepts(is_asking_tree, Book(2, ()), 1, (1, 0, ("told", ()), ("told", ())))
        self.refuses(is_asking_tree, Book(2, ()), 0, things=[(1, 0, ("told", ()), ("told", ()))])
        self.refuses(is_asking_tree, Book(1, ()), 3, things=[(0, 0, ("told", ()), ("told", ()))])

    def test_fourteenth_fact(self):
        forests = 0
        for people in (2, 3, 4):
            pairs = list(combinations(range(people), 2))
            for size in range(len(pairs) + 1):
                for lots in combinations(pairs, size):
                    if not self.has_round(people, lots):
                        forests += 1
                        self.assertEqual(asked_least(Book(people, lots)), size, lots)
        self.assertEqual(forests, 2 + 7 + 38)

    def has_round(self, people, lots):
        rows = [row for size in range(3, people + 1) for row in permutations(range(people), size)]
        return any(all(tuple(sorted((row[k - 1], row[k]))) in lots for k in range(len(row))) for row in rows)

    def test_four_and_five(self):
        self.assertEqual(asked_least(Book(4, ((0, 1),))), 1)
        for book in (FIVE, Book(5, ()), Book(12, ())):
            self.raises(TooMany, asked_least, book, most=4)
            self.raises(TooMany, asking_tree, book, most=4)
            for thing in (("told", ()), (0, 1, ("told", (1,)), ("told", (0,))), None):
                self.raises(TooMany, is_asking_tree, book, 3, thing, most=4)
                self.raises(TooMany, is_asking_tree, book, 0, thing, most=4)

    def test_no_number(self):
        for wrong in plain.bad_numbers() + ["2", (2,), 2 > 1]:
            for book in (ROW, FIVE):
                for thing in (RIGHT, None):
                    self.raises(NoNumber, is_asking_tree, book, wrong, thing)


class TreeTest(Checks, unittest.TestCase):
    def test_told_ones(self):
        rand = random.Random(181)
        for people, many in ((2, 20), (3, 150), (4, 60)):
            for book in rand.sample(all_books(people), min(9, len(all_books(people)))):
                every = frozenset(plain.lists(people))
                for _ in range(many):
                    tree = random_tree(rand, book, every, rand.randint(0, 6))
                    for most in (0, depth(tree) - 1, depth(tree), 6):
                        if most >= 0:
                            wanted = is_plain_tree(book, every, most, tree)
                            self.same_flag(wanted, is_asking_tree(book, most, tree), book.lots, most, tree)

    def test_one_thing_wrong(self):
        rand = random.Random(182)
        for people in (2, 3, 4):
            for book in rand.sample(all_books(people), min(8, len(all_books(people)))):
                every = frozenset(plain.lists(people))
                for tree in (asking_tree(book), random_tree(rand, book, every, 9)):
                    self.accepts(is_asking_tree, book, 6, tree)
                    for way in places(tree):
                        self.spoilt(book, every, tree, way, at(tree, way))

    def spoilt(self, book, every, tree, way, part):
        """Checks a tree with a part of it made wrong, or perhaps only otherwise."""
        numbers = range(-1, book.people + 1)
        if len(part) == 2:
            others = [("told", part[1][:k] + (person,) + part[1][k + 1:]) for k in range(len(part[1])) for person in numbers]
            others += [("told", part[1] + (0,)), ("told", part[1] + ((),)), (part[1], "told")]
        else:
            others = [(a, b) + part[2:] for a in numbers for b in numbers]
            others += [part[:2] + (part[3], part[2]), part[2], part[3], (part[1], part[0], part[3], part[2])]
        for other in others:
            thing = put(tree, way, other)
            for most in (6, depth(tree)):
                wanted = is_plain_tree(book, every, most, thing)
                self.same_flag(wanted, is_asking_tree(book, most, thing), book.lots, thing)
        never = [list(part), part[:-1], part + (0,), part + (("told", ()),), (part,), None, (), part[1:]]
        if len(part) == 2:
            never += [("told", list(part[1])), ("Told", part[1]), (b"told", part[1]), (None, part[1]), ("told", None),
                      (["told"], part[1]), (("told",), part[1]), ("told", part[1] + (None,)), ("told", {})]
            if part[1]:
                never += [("told", tuple(map(str, part[1]))), ("told", part[1][:-1]), ("told", part[1][0])]
        else:
            never += [(part[0], part[0]) + part[2:], (part[0], part[1], list(part[2]), part[3]),
                      (part[0], part[1], part[2], None), ((part[0], part[1]), part[2], part[3]),
                      (str(part[0]), part[1]) + part[2:], (part[0], (part[1],)) + part[2:], (None, part[1]) + part[2:],
                      (part[0], []) + part[2:], (part[0], part[1], part[3], {})]
        self.refuses(is_asking_tree, book, 6, things=[put(tree, way, thing) for thing in never])

    def test_flags(self):
        self.accepts(is_asking_tree, ROW, 2, RIGHT)
        found = []
        for way in places(RIGHT):
            part = at(RIGHT, way)
            if len(part) == 2:
                for k in range(2):
                    found.append(put(RIGHT, way, ("told", part[1][:k] + (part[1][k] == 1,) + part[1][k + 1:])))
            else:
                found.append(put(RIGHT, way, (part[0] == 1, part[1], part[2], part[3])))
                found.append(put(RIGHT, way, (part[0], True, part[2], part[3])))
        self.refuses(is_asking_tree, ROW, 2, things=found)

    def test_answered_already(self):
        told = ("told", (1,))
        book = Book(2, ((0, 1),))
        self.accepts(is_asking_tree, book, 2, (0, 1, told, ("told", (0,))))
        self.accepts(is_asking_tree, book, 2, (1, 0, ("told", (0,)), told))
        for again in ((0, 1, told, told), (1, 0, told, told), (0, 0, told, told), (1, 1, told, told)):
            self.refuses(is_asking_tree, book, 2, things=[(0, 1, again, ("told", (0,)))])
        # With 0 ahead of 1 and 1 ahead of 2 it is answered that 0 is ahead of 2.
        more = (0, 2, ("told", (1, 2)), ("told", (1, 2)))
        self.refuses(is_asking_tree, ROW, 3, things=[put(RIGHT, (2, 2), more)])
        more = (0, 2, ("told", (1, 1)), ("told", (1, 1)))
        self.accepts(is_asking_tree, ROW, 3, put(RIGHT, (2, 3), more))
        self.refuses(is_asking_tree, ROW, 2, things=[put(RIGHT, (2, 3), more)])

    def test_questions_on_each_way(self):
        for most in (2, 3, 60, 10 ** 59):
            self.accepts(is_asking_tree, ROW, most, RIGHT)
        self.refuses(is_asking_tree, ROW, 1, things=[RIGHT])
        self.refuses(is_asking_tree, ROW, 0, things=[RIGHT])
        # The longest way counts, not each one.
        star = Book(3, ((0, 1, 2),))
        tree = (0, 1, (1, 2, ("told", (2,)), ("told", (1,))), (0, 2, ("told", (2,)), ("told", (0,))))
        self.accepts(is_asking_tree, star, 2, tree)
        self.refuses(is_asking_tree, star, 1, things=[tree])

    def test_strange(self):
        for most in (0, 1, 2, 5):
            self.refuses(is_asking_tree, ROW, most, things=strange())
        for thing in strange():
            self.refuses(is_asking_tree, ROW, 2, things=[
                put(RIGHT, (2,), thing), put(RIGHT, (3, 2), thing), (0, thing) + RIGHT[2:], (thing, 1) + RIGHT[2:],
                put(RIGHT, (3, 2), ("told", thing)), put(RIGHT, (3, 2), (thing, (0, 2))),
                put(RIGHT, (3, 2), ("told", (0, thing)))])

    def test_deep(self):
        for most in (2, 40):
            self.refuses(is_asking_tree, ROW, most, things=[
                plain.nested(lambda thing: (0, 1, thing, thing), 6), plain.nested(lambda thing: (0, 1, thing, 0), 40),
                plain.nested(lambda thing: (0, 1, RIGHT[2], thing), 38), plain.nested(lambda thing: ("told", thing), 40)])

    def test_arguments_stay(self):
        tree = self.leaves(asking_tree, ROW)
        self.leaves(is_asking_tree, ROW, 2, tree)
        self.assertEqual(asking_tree(ROW), tree)

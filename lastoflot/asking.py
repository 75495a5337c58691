"""Questions about a list that one does not know, until the lasts of all lots are told."""

from itertools import combinations, permutations

from lastoflot.crowds import is_number, is_person, is_tuple_of, is_word
from lastoflot.errors import TooMany
from lastoflot.offices import lasts_by
from lastoflot.waiting import check_many

MOST_PEOPLE = 4


def check_small(book):
    """Raises an error if there are too many people to go through all questions."""
    if book.people > MOST_PEOPLE:
        raise TooMany(MOST_PEOPLE)


def asked_least(book):
    """The least number of questions that are enough, whatever is answered."""
    check_small(book)
    return least_tree(book, all_lists(book), {})[0]


def asking_tree(book):
    """An asking tree with as few questions as can be on its longest way."""
    check_small(book)
    return least_tree(book, all_lists(book), {})[1]


def all_lists(book):
    """The tuple of all lists of the people of a book."""
    return tuple(permutations(range(book.people)))


def tables_of(book, orders):
    """The ascending list of the tables that some lists have."""
    return sorted(set([lasts_by(book, order) for order in orders]))


def by_answer(orders, a, b):
    """The pair of those lists in which a stands ahead of b, and of the others."""
    ahead = [order for order in orders if order.index(a) < order.index(b)]
    behind = [order for order in orders if order.index(a) >= order.index(b)]
    return (tuple(ahead), tuple(behind))


def least_tree(book, orders, known):
    """The least number of questions that part some lists by their tables, and a tree with so many."""
    if orders not in known:
        tables = tables_of(book, orders)
        if len(tables) == 1:
            known[orders] = (0, ("told", tables[0]))
        else:
            known[orders] = least_question(book, orders, known)
    return known[orders]


def least_question(book, orders, known):
    """The like for lists with unlike tables, by going through all questions that can be asked first."""
    least = None
    for a, b in combinations(range(book.people), 2):
        ahead, behind = by_answer(orders, a, b)
        if ahead and behind:
            one_many, one = least_tree(book, ahead, known)
            other_many, other = least_tree(book, behind, known)
            many = 1 + max(one_many, other_many)
            if least is None or many < least[0]:
                least = (many, (a, b, one, other))
    return least


def is_asking_tree(book, most, thing):
    """Whether a thing is an asking tree with at most so many questions on each way."""
    check_many(most)
    check_small(book)
    return is_tree(book, all_lists(book), most, thing)


def is_tree(book, orders, most, thing):
    """Whether a thing is a tree for the lists that go with the answers so far."""
    if is_tuple_of(thing, 2):
        return is_word(thing[0], "told") and is_table_of(book, orders, thing[1])
    if not is_tuple_of(thing, 4) or most == 0:
        return False
    a, b, one, other = thing
    if not is_person(book.people, a) or not is_person(book.people, b):
        return False
    ahead, behind = by_answer(orders, a, b)
    if not ahead or not behind:
        return False
    return is_tree(book, ahead, most - 1, one) and is_tree(book, behind, most - 1, other)


def is_table_of(book, orders, thing):
    """Whether a thing is the table that all of some lists have."""
    if not isinstance(thing, tuple) or not all([is_number(last) for last in thing]):
        return False
    return tables_of(book, orders) == [thing]

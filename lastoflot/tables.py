"""Tables of lasts: which person of each lot is its last."""

from lastoflot.books import lots_bits
from lastoflot.crowds import bits_of, crowd_of, has, is_number, is_row, is_tuple_of
from lastoflot.errors import NoTable, TooMany
from lastoflot.fellows import ahead_of_lasts, ready, ways_on

MOST_PEOPLE = 9
MOST_TABLES = 2000


def check_table(book, table):
    """Raises an error unless this is a table of a book."""
    if not is_tuple_of(table, len(book.lots)):
        raise NoTable()
    for lot, last in zip(book.lots, table):
        if not is_number(last) or last not in lot:
            raise NoTable()


def list_for(book, table):
    """The least list whose lots have just these lasts, or None."""
    check_table(book, table)
    order = least_order(ahead_of_lasts(book, table))
    if len(order) < book.people:
        return None
    return order


def least_order(ahead):
    """The least order, as far as it goes, in which nobody stands ahead of who must stand ahead."""
    order = []
    choices = ready(ahead, 0)
    while choices:
        order.append(choices[0])
        choices = ready(ahead, bits_of(order))
    return tuple(order)


def ring_of(book, table):
    """A ring of a table, or None."""
    check_table(book, table)
    ahead = ahead_of_lasts(book, table)
    left = ((1 << book.people) - 1) ^ bits_of(least_order(ahead))
    if left == 0:
        return None
    # Each of those left has one of them who must stand ahead, so a walk among them comes round.
    walk = []
    person = crowd_of(left)[0]
    while person not in walk:
        walk.append(person)
        person = crowd_of(ahead[person] & left)[0]
    return tuple(walk[walk.index(person):][::-1])


def is_ring(book, table, thing):
    """Whether a thing is a ring of a table."""
    check_table(book, table)
    if not is_row(book.people, thing) or len(thing) < 2:
        return False
    ahead = ahead_of_lasts(book, table)
    return all([has(ahead[thing[k]], thing[k - 1]) for k in range(len(thing))])


def lists_with(book, table):
    """The number of all lists with these lasts."""
    check_table(book, table)
    return ways_on(ahead_of_lasts(book, table))[0]


def many_tables(book):
    """The number of the tables that some list has."""
    if book.people > MOST_PEOPLE:
        raise TooMany(MOST_PEOPLE)
    many = [1]
    for bits in range(1, 1 << book.people):
        many.append(many_within(book, bits, many))
    return many[-1]


def many_within(book, bits, many):
    """The number of tables of the lots within a crowd, told for all smaller crowds."""
    lots = [lot for lot in lots_bits(book) if (lot & bits) == lot]
    # In each table somebody can stand behind all others of the crowd. No two such people share a lot:
    # so the tables are counted by crowds of them, those counted twice being taken off again.
    apart = [(0, -1)]
    for person in crowd_of(bits):
        near = sharing(lots, person)
        apart = apart + [(part | (1 << person), -sign) for part, sign in apart if (part & near) == 0]
    return sum([sign * many[bits ^ part] for part, sign in apart[1:]])


def sharing(lots, person):
    """The bits of all persons of the lots that a person is of."""
    near = 0
    for lot in lots:
        if has(lot, person):
            near = near | lot
    return near


def all_tables(book):
    """The ascending list of the tables that some list has."""
    if many_tables(book) > MOST_TABLES:
        raise TooMany(MOST_TABLES)
    # Whatever lasts of the first lots go together, some list has them: so nothing begun here is in vain.
    begun = [((), [0] * book.people)]
    for lot in book.lots:
        begun = [wider for table, ahead in begun for wider in tables_on(table, ahead, lot)]
    return [table for table, _ in begun]


def tables_on(table, ahead, lot):
    """The tables that go on with a last of one more lot, each with those who then must stand ahead."""
    found = []
    for last in lot:
        others = [person for person in lot if person != last]
        if not any([has(ahead[other], last) for other in others]):
            found.append(((*table, last), with_ahead(ahead, last, others)))
    return found


def with_ahead(ahead, last, others):
    """For each person those who must stand ahead, once others must stand ahead of a last, too."""
    more = bits_of(others)
    for other in others:
        more = more | ahead[other]
    wider = list(ahead)
    for person in range(len(ahead)):
        if person == last or has(ahead[person], last):
            wider[person] = ahead[person] | more
    return wider


def least_lists(book):
    """The ascending list of the least list of each table that some list has."""
    return sorted([list_for(book, table) for table in all_tables(book)])

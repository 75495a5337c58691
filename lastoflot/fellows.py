"""Fellows: the lists that are alike to the one of an office."""

from lastoflot.crowds import bits_of, count_of, crowd_of, has, is_below, is_list
from lastoflot.errors import NoList, NoNumber
from lastoflot.offices import check_person, lasts


def ahead_of_lasts(book, table):
    """For each person the bits of the others of each lot for which a table of lasts has this one."""
    ahead = [0] * book.people
    for lot, last in zip(book.lots, table):
        ahead[last] = ahead[last] | (bits_of(lot) ^ (1 << last))
    return ahead


def ahead_in(office):
    """For each person the bits of those who share a lot of which this one is the last."""
    return ahead_of_lasts(office.book, lasts(office))


def ready(ahead, placed):
    """The ascending list of those not placed yet all of whom must stand ahead are placed."""
    people = range(len(ahead))
    return [person for person in people if not has(placed, person) and (ahead[person] & placed) == ahead[person]]


def ways_on(ahead):
    """For each crowd, as bits, in how many orders all others can follow once it is placed."""
    full = (1 << len(ahead)) - 1
    ways = [1] * (full + 1)
    for placed in range(full - 1, -1, -1):
        ways[placed] = sum([ways[placed | (1 << person)] for person in ready(ahead, placed)])
    return ways


def many_fellows(office):
    """The number of fellows."""
    return ways_on(ahead_in(office))[0]


def fellow_at(office, number):
    """The fellow with a number, when they are ascending."""
    ahead = ahead_in(office)
    ways = ways_on(ahead)
    if not is_below(ways[0], number):
        raise NoNumber()
    order = []
    placed = 0
    rest = number
    while len(order) < len(ahead):
        person, rest = next_at(ahead, ways, placed, rest)
        order.append(person)
        placed = placed | (1 << person)
    return tuple(order)


def next_at(ahead, ways, placed, number):
    """The next person of the fellow with a number among those that go on so, and its number with this one."""
    choices = ready(ahead, placed)
    rest = number
    k = 0
    while rest >= ways[placed | (1 << choices[k])]:
        rest = rest - ways[placed | (1 << choices[k])]
        k = k + 1
    return (choices[k], rest)


def fellow_number(office, order):
    """The number of a fellow, when they are ascending."""
    if not is_list(office.book.people, order):
        raise NoList()
    ahead = ahead_in(office)
    ways = ways_on(ahead)
    number = 0
    placed = 0
    for person in order:
        choices = ready(ahead, placed)
        if person not in choices:
            raise NoList()
        number = number + sum([ways[placed | (1 << other)] for other in choices if other < person])
        placed = placed | (1 << person)
    return number


def all_ahead(office):
    """For each person the bits of those who stand ahead of this one in all fellows."""
    found = ahead_in(office)
    # Whoever must stand ahead of a person stands ahead in this list, too, and is complete by then.
    for person in office.order:
        elders = crowd_of(found[person])
        for elder in elders:
            found[person] = found[person] | found[elder]
    return found


def bound_pairs(office):
    """The ascending list of the pairs of which the former stands ahead of the latter in all fellows."""
    return sorted([(elder, person) for person, bits in enumerate(all_ahead(office)) for elder in crowd_of(bits)])


def may_stand(office, person):
    """The ascending list of the places at which a person stands in some fellow."""
    people = office.book.people
    check_person(people, person)
    ahead = all_ahead(office)
    behind = [other for other in range(people) if has(ahead[other], person)]
    # Whoever is bound neither way can stand on either side, so there is no gap between the two ends.
    return list(range(count_of(ahead[person]), people - len(behind)))

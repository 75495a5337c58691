"""Sightings: who was seen let in from which crowds, and the lists that fit."""

from itertools import combinations

from lastoflot.books import is_lot_of, lots_bits
from lastoflot.crowds import bits_of, has, holds_any, is_below, is_crowd, is_crowd_within, is_list, is_part
from lastoflot.crowds import is_tuple_of, is_word
from lastoflot.errors import NoSightings, TooMany
from lastoflot.offices import Office, bits_in

MOST_SIGHTINGS = 20
MOST_TO_CHOOSE_FROM = 12


def check_sightings(book, sightings):
    """Raises an error unless these are sightings of the people of a book."""
    if not isinstance(sightings, (list, tuple)) or len(sightings) > MOST_SIGHTINGS:
        raise NoSightings()
    for sighting in sightings:
        if not is_sighting(book.people, sighting):
            raise NoSightings()


def is_sighting(people, thing):
    """Whether a thing is a pair of a crowd and a crowd within it."""
    return is_tuple_of(thing, 2) and is_crowd(people, thing[0]) and is_crowd_within(people, thing[0], thing[1])


def others_seen(lots, person, seen):
    """The others of each lot of a person that is within those seen and this one, all kept as bits."""
    own = 1 << person
    return [lot ^ own for lot in lots if has(lot, person) and (lot | seen | own) == (seen | own)]


def all_needs(book, sightings):
    """For each person the list of this one's needs.

    A need is the pair of the number of a sighting in which the person is out, and of the crowds, as bits, one of which
    must stand ahead of the person whole.
    """
    lots = lots_bits(book)
    needs = [[] for _ in range(book.people)]
    for number, (crowd, seen) in enumerate(sightings):
        inside = bits_of(seen)
        for person in crowd:
            if not has(inside, person):
                needs[person].append((number, others_seen(lots, person, inside)))
    return needs


def first_unmet(needs, placed):
    """The number of the sighting of the first need of a person that those placed do not meet, or None."""
    for number, choices in needs:
        if not holds_any(placed, choices):
            return number
    return None


def ready_for(needs, placed, barred):
    """The ascending list of those neither placed yet nor barred all of whose needs are met."""
    gone = placed | barred
    people = range(len(needs))
    return [person for person in people if not has(gone, person) and first_unmet(needs[person], placed) is None]


def order_by(needs, barred):
    """The least order of all who can be placed one behind another, those barred, kept as bits, never placed."""
    order = []
    # Whoever is ready stays so, and takes nothing from the others: so the least one is always right.
    choices = ready_for(needs, 0, barred)
    while choices:
        order.append(choices[0])
        choices = ready_for(needs, bits_of(order), barred)
    return tuple(order)


def lots_seen(book, sightings):
    """The list of the pairs of the number of a sighting and a lot within those seen in it."""
    found = []
    for number, (_, seen) in enumerate(sightings):
        found.extend([(number, lot) for lot in book.lots if is_part(lot, seen)])
    return found


def is_fitting(book, sightings, thing):
    """Whether a thing is a list that fits."""
    check_sightings(book, sightings)
    if not is_list(book.people, thing):
        return False
    office = Office(book, thing)
    return all([bits_in(office, bits_of(crowd)) == bits_of(seen) for crowd, seen in sightings])


def fitting(book, sightings):
    """The least list that fits, or None."""
    check_sightings(book, sightings)
    return least_fitting(book, sightings)


def least_fitting(book, sightings):
    """The least list that fits any number of sightings, or None."""
    if lots_seen(book, sightings):
        return None
    order = order_by(all_needs(book, sightings), 0)
    if len(order) < book.people:
        return None
    return order


def many_fitting(book, sightings):
    """The number of the lists that fit."""
    check_sightings(book, sightings)
    if lots_seen(book, sightings):
        return 0
    needs = all_needs(book, sightings)
    ways = {0: 1}
    for _ in range(book.people):
        ways = one_further(needs, ways)
    return sum(ways.values())


def one_further(needs, ways):
    """In how many orders crowds, as bits, can be placed, told for those of one person less."""
    found = {}
    for placed in ways:
        for person in ready_for(needs, placed, 0):
            wider = placed | (1 << person)
            found[wider] = found.get(wider, 0) + ways[placed]
    return found


def bar_to_lists(book, sightings):
    """A bar to lists, or None."""
    check_sightings(book, sightings)
    seen_whole = lots_seen(book, sightings)
    if seen_whole:
        return ("lot", *seen_whole[0])
    needs = all_needs(book, sightings)
    placed = bits_of(order_by(needs, 0))
    heap = tuple([person for person in range(book.people) if not has(placed, person)])
    if heap == ():
        return None
    return ("heap", heap, tuple([first_unmet(needs[person], placed) for person in heap]))


def is_bar_to_lists(book, sightings, thing):
    """Whether a thing is a bar to lists."""
    check_sightings(book, sightings)
    if not is_tuple_of(thing, 3):
        return False
    word, first, second = thing
    if is_word(word, "lot"):
        return is_below(len(sightings), first) and is_lot_of(book, second) and is_part(second, sightings[first][1])
    return is_word(word, "heap") and is_heap(book, sightings, first, second)


def is_heap(book, sightings, heap, numbers):
    """Whether these are a crowd and the numbers of sightings that keep each one of it behind some other one of it."""
    if not is_crowd(book.people, heap) or heap == () or not is_tuple_of(numbers, len(heap)):
        return False
    if not all([is_below(len(sightings), number) for number in numbers]):
        return False
    lots = lots_bits(book)
    together = bits_of(heap)
    return all([is_kept_behind(lots, sightings[number], person, together) for person, number in zip(heap, numbers)])


def is_kept_behind(lots, sighting, person, heap):
    """Whether a person is out in a sighting, and by no lot without somebody else of a heap, kept as bits."""
    crowd, seen = sighting
    if person not in crowd or person in seen:
        return False
    return all([(others & heap) != 0 for others in others_seen(lots, person, bits_of(seen))])


def fewest_dropped(book, sightings):
    """The fewest sightings without which some list fits."""
    return len(dropped(book, sightings))


def dropped(book, sightings):
    """The least ascending tuple of the numbers of as few sightings as can be without which some list fits."""
    check_sightings(book, sightings)
    if len(sightings) > MOST_TO_CHOOSE_FROM:
        raise TooMany(MOST_TO_CHOOSE_FROM)
    hopeless = [number for number, _ in lots_seen(book, sightings)]
    needs = all_needs(book, sightings)
    for size in range(len(sightings)):
        for chosen in combinations(range(len(sightings)), size):
            if all([number in chosen for number in hopeless]) and fits_without(needs, chosen):
                return chosen
    return tuple(range(len(sightings)))


def fits_without(needs, chosen):
    """Whether all people can be placed when the needs that come of some sightings are dropped."""
    kept = [[need for need in wants if need[0] not in chosen] for wants in needs]
    return len(order_by(kept, 0)) == len(kept)


def is_dropped(book, sightings, thing):
    """Whether a thing is an ascending tuple of numbers of sightings without which some list fits."""
    check_sightings(book, sightings)
    # Numbers of sightings, ascending, are just what a crowd of so many people is.
    if not is_crowd(len(sightings), thing):
        return False
    left = [sighting for number, sighting in enumerate(sightings) if number not in thing]
    return least_fitting(book, left) is not None

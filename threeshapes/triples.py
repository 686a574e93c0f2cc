"""Triples of places, and which of them have fillings."""

from itertools import combinations

from threeshapes.errors import BadSize, BadTriple
from threeshapes.listing import count_fillings
from threeshapes.numbers import is_sequence, is_whole

LEAST_SIZE = 2
MOST_SIZE = 6
# The only filled triple for n to 6 whose number is not 1 [4.2].
NOT_NEEDFUL = ((1, 3, 5), (1, 3, 5), (2, 4, 6))


def places_shape(places):
    """Return the shape of places; nothing is checked."""
    return tuple([place - at for at, place in enumerate(places, 1)][::-1])


def check_triple(n, triple):
    """Return the triple as a tuple of three tuples, or raise BadSize or BadTriple."""
    _check_size(n, LEAST_SIZE, MOST_SIZE)
    if not is_sequence(triple) or len(triple) != 3:
        raise BadTriple("rows")
    if not all([is_sequence(places) for places in triple]):
        raise BadTriple("rows")
    if not all([_are_places(n, places) for places in triple]):
        raise BadTriple("number")
    size = len(triple[0])
    if not 1 <= size < n or not all([len(places) == size for places in triple]):
        raise BadTriple("many")
    return tuple([tuple(places) for places in triple])


def _check_size(size, least, most):
    if not is_whole(size, least, most):
        raise BadSize(size)


def _are_places(n, places):
    """Tell whether all items are whole numbers from 1 to n, each above the one before it."""
    if not all([is_whole(place, 1, n) for place in places]):
        return False
    return all([place < later for place, later in zip(places, places[1:])])


def triple_number(n, triple):
    """Return the number of the triple."""
    ones, others, sums = check_triple(n, triple)
    return count_fillings(places_shape(ones), places_shape(others), places_shape(sums))


def filled_triples(n, r):
    """Return all filled triples of size r, ascending."""
    _check_size(n, LEAST_SIZE, MOST_SIZE)
    _check_size(r, 1, n - 1)
    return tuple(_filled_of_size(n, r))


def needful_triples(n):
    """Return all triples whose number is 1, by their size, ascending within a size."""
    _check_size(n, LEAST_SIZE, MOST_SIZE)
    found = []
    for r in range(1, n):
        found.extend([triple for triple in _filled_of_size(n, r) if triple != NOT_NEEDFUL])
    return tuple(found)


def _filled_of_size(n, r):
    """Return the list of all filled triples of size r, ascending."""
    if 2 * r > n:
        # The turned triple is filled just if the triple is, and the smaller ones are found sooner.
        return sorted([_turned(n, triple) for triple in _filled_of_size(n, n - r)])
    smaller = []
    for size in range(1, r):
        smaller.extend(_filled_of_size(r, size))
    by_sum = {}
    places = list(combinations(range(1, n + 1), r))
    for sums in places:
        by_sum.setdefault(sum(sums), []).append(sums)
    found = []
    for ones in places:
        for others in places:
            total = sum(ones) + sum(others) - _sum_up_to(r)
            for sums in by_sum.get(total, []):
                if _keeps_all(ones, others, sums, smaller):
                    found.append((ones, others, sums))
    return found


def _sum_up_to(number):
    return number * (number + 1) // 2


def _keeps_all(ones, others, sums, smaller):
    """Tell whether the places keep the inequality of each smaller filled triple, as [4.2] tells it."""
    for firsts, seconds, thirds in smaller:
        least = sum([ones[f - 1] for f in firsts]) + sum([others[g - 1] for g in seconds])
        if least > sum([sums[h - 1] for h in thirds]) + _sum_up_to(len(thirds)):
            return False
    return True


def turned_triple(n, triple):
    """Return the triple of size n - r that is made of the places left out, counted from the other end."""
    return _turned(n, check_triple(n, triple))


def _turned(n, triple):
    """Return the turned triple; nothing is checked."""
    return tuple([
        tuple([n + 1 - x for x in range(n, 0, -1) if x not in places])
        for places in triple
    ])

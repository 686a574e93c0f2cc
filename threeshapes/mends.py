"""Mends and blocks: which sayings of a book keep it from having a reading."""

from itertools import combinations

from threeshapes.books import first_bad_saying
from threeshapes.errors import BadPool, BadWhat
from threeshapes.numbers import is_sequence, is_whole
from threeshapes.readings import has_reading

MOST_OF_POOL = 6
MEND = "mend"
BLOCK = "block"


def check_pool(book, pool):
    """Return the pool as a tuple of sayings, or raise BadPool."""
    if not is_sequence(pool) or len(pool) > MOST_OF_POOL:
        raise BadPool(0)
    bad = first_bad_saying(book, pool)
    if bad is not None:
        raise BadPool(bad)
    return tuple([tuple(saying) for saying in pool])


def find_mends(book, pool):
    """Yield the least choices of the pool without whose sayings the book has a reading."""
    pool = check_pool(book, pool)
    for choice in _least_choices(book, pool, MEND):
        yield choice


def find_blocks(book, pool):
    """Yield the least choices of the pool that, without all other sayings of it, leave the book no reading."""
    pool = check_pool(book, pool)
    for choice in _least_choices(book, pool, BLOCK):
        yield choice


def _least_choices(book, pool, what):
    """Yield the choices that mend or block, but contain no smaller one, by their number of items, then ascending."""
    found = []
    for choice in _all_choices(len(pool)):
        if not _has_one_of(choice, found) and _does(book, pool, choice, what):
            found.append(choice)
            yield choice


def _all_choices(many):
    """Return all choices of so many indexes, by their number of items, then ascending."""
    choices = []
    for size in range(many + 1):
        for choice in combinations(range(many), size):
            choices.append(choice)
    return choices


def _has_one_of(choice, smaller):
    """Tell whether one of the smaller choices stands within the choice."""
    return any([all([index in choice for index in one]) for one in smaller])


def _does(book, pool, choice, what):
    """Tell whether the choice mends, or blocks; nothing is checked."""
    if what == MEND:
        return has_reading(book.without([pool[index] for index in choice]))
    return not has_reading(book.without([saying for index, saying in enumerate(pool) if index not in choice]))


def choice_fault(book, pool, choice, what):
    """Return None for a least mending or blocking choice, otherwise the first word that applies."""
    pool = check_pool(book, pool)
    if what not in (MEND, BLOCK):
        raise BadWhat()
    if not _is_choice(choice, len(pool)):
        return "form"
    if not _does(book, pool, choice, what):
        return "short"
    # Whatever contains a mending or blocking choice does so, too: it is enough to leave out one index.
    smaller = [[*choice[:at], *choice[at + 1:]] for at in range(len(choice))]
    return "more" if any([_does(book, pool, one, what) for one in smaller]) else None


def _is_choice(thing, many):
    """Tell whether thing is a sequence of indexes of the pool, ascending, none twice."""
    if not is_sequence(thing) or not all([is_whole(index, 0, many - 1) for index in thing]):
        return False
    return all([index < later for index, later in zip(thing, thing[1:])])

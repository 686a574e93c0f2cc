"""Plain counts in rooms for the tests; they take nothing from the package."""

import itertools

# Rooms of every number of parts; of those with more members only some are gone through.
SMALL_ROOMS = (
    (2, ()), (3, ()), (2, (1,)), (3, (1,)), (5, (1,)), (2, (2,)), (2, (1, 1)), (3, (2,)), (3, (1, 1)), (5, (1, 1)),
    (2, (3,)), (2, (2, 1)), (2, (1, 1, 1)), (2, (4,)), (2, (3, 1)), (2, (2, 2)), (2, (2, 1, 1)), (2, (1, 1, 1, 1)),
)
MIDDLE_ROOMS = ((3, (3,)), (3, (2, 1)), (3, (1, 1, 1)), (5, (2,)), (2, (5,)), (2, (4, 1)), (2, (3, 2)), (2, (3, 1, 1)))
LARGE_ROOMS = ((2, (2, 2, 1)), (2, (2, 1, 1, 1)), (2, (3, 3)), (2, (6,)), (3, (2, 2)), (3, (3, 1)), (3, (4,)),
               (2, (4, 2)), (2, (3, 2, 1)))
# The greatest rooms that are let.
GREATEST_ROOMS = ((3, (1, 1, 1, 1)), (3, (2, 1, 1)), (2, (2, 2, 1, 1)))


def plain_members(prime, kind):
    return [tuple(entry) for entry in itertools.product(*[range(prime ** part) for part in kind])]


def plain_added(prime, kind, one, other):
    return tuple((x + y) % prime ** part for x, y, part in zip(one, other, kind))


def plain_multiple(prime, kind, times, member):
    return tuple(times * x % prime ** part for x, part in zip(member, kind))


def plain_closed(prime, kind, members):
    """The least set that contains nought and these members, and with any two of its members their sum."""
    closed = {(0,) * len(kind)}
    for member in members:
        if member not in closed:
            multiples = {plain_multiple(prime, kind, times, member) for times in range(prime ** max(kind))}
            closed = {plain_added(prime, kind, one, other) for one in closed for other in multiples}
    return tuple(sorted(closed))


def is_closed(prime, kind, members):
    known = set(members)
    if (0,) * len(kind) not in known:
        return False
    return all(plain_added(prime, kind, one, other) in known for one in known for other in known)


def plain_rooms_within(prime, kind):
    """All rooms within, by their sizes, those of one size ascending: each is made of one more member than another."""
    members = plain_members(prime, kind)
    done = set()
    waiting = [plain_closed(prime, kind, [])]
    while waiting:
        within = waiting.pop()
        if within not in done:
            done.add(within)
            inside = set(within)
            # One member of each rest is enough.
            for member in members:
                if member not in inside:
                    rest = [plain_added(prime, kind, member, one) for one in within]
                    inside.update(rest)
                    waiting.append(plain_closed(prime, kind, within + (member,)))
    return sorted(done, key=lambda within: (len(within), within))


def plain_killed(prime, kind, exponent):
    """How many members of a room of the kind the prime to the exponent kills."""
    nought = (0,) * len(kind)
    return sum(plain_multiple(prime, kind, prime ** exponent, member) == nought for member in plain_members(prime, kind))


def plain_kinds(total, most=None):
    """All kinds with this sum, ascending."""
    if total == 0:
        return [()]
    top = total if most is None else min(total, most)
    return [(first,) + rest for first in range(1, top + 1) for rest in plain_kinds(total - first, first)]


def plain_number(prime, size):
    """The exponent of a power of the prime."""
    exponent = 0
    while prime ** exponent < size:
        exponent += 1
    return exponent


def kind_of_counts(prime, counts):
    """The one kind in whose room just as many members are killed by each power as told, from the exponent 0 on."""
    total = plain_number(prime, counts[-1])
    found = []
    for kind in plain_kinds(total):
        if all(counts[exponent] == prime ** sum(min(part, exponent) for part in kind) for exponent in range(len(counts))):
            found.append(kind)
    assert len(found) == 1
    return found[0]


def plain_kind(prime, kind, within):
    nought = (0,) * len(kind)
    counts = [
        sum(plain_multiple(prime, kind, prime ** exponent, member) == nought for member in within)
        for exponent in range(max(kind, default=0) + 1)
    ]
    return kind_of_counts(prime, counts)


def plain_rests(prime, kind, within):
    return {
        tuple(sorted(plain_added(prime, kind, member, one) for one in within))
        for member in plain_members(prime, kind)
    }


def plain_rest_kind(prime, kind, within):
    inside = set(within)
    rests = plain_rests(prime, kind, within)
    counts = [
        sum(plain_multiple(prime, kind, prime ** exponent, rest[0]) in inside for rest in rests)
        for exponent in range(max(kind, default=0) + 1)
    ]
    return kind_of_counts(prime, counts)

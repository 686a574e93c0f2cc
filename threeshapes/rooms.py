"""Rooms: finite groups of remainders at a prime, and their members."""

from threeshapes.errors import BadExponent, BadMember, BadNumber, TooLarge
from threeshapes.numbers import check_prime, exponent_of, is_sequence, is_whole, prime_power
from threeshapes.shapes import check_kind

MOST_PARTS = 4
MOST_MEMBERS = 81
# Even the least prime has too many members with a greater sum of parts.
MOST_SUM = 6


class Room:
    """All members of a kind: tuples in which the entry i counts modulo the prime to the part i."""

    def __init__(self, prime, kind):
        check_prime(prime)
        kind = check_kind(kind, MOST_PARTS)
        total = sum(kind)
        # The sum is asked first, because a part may be too great to be an exponent.
        if total > MOST_SUM or prime_power(prime, total) > MOST_MEMBERS:
            raise TooLarge(MOST_MEMBERS)
        self.prime = prime
        self.kind = kind
        self.size = prime_power(prime, total)
        self.members = _all_members(prime, kind)

    def __eq__(self, other):
        return isinstance(other, Room) and self.prime == other.prime and self.kind == other.kind

    def __iter__(self):
        return iter(self.members)


def _all_members(prime, kind):
    """Return all members of the kind, ascending."""
    members = [()]
    for part in kind:
        numbers = list(range(prime_power(prime, part)))
        members = [(*member, number) for member in members for number in numbers]
    return tuple(members)


def moduli_of(room):
    """Return for each entry of a member what it counts modulo."""
    return tuple([prime_power(room.prime, part) for part in room.kind])


def nought_of(room):
    """Return the member whose entries are all 0."""
    return (0,) * len(room.kind)


def plain_sum(moduli, one, other):
    """Return the sum of two members; nothing is checked."""
    return tuple([(number + more) % modulus for number, more, modulus in zip(one, other, moduli)])


def plain_times(moduli, times, member):
    """Return the member taken so many times; nothing is checked."""
    return tuple([times * number % modulus for number, modulus in zip(member, moduli)])


def check_member(room, thing):
    """Return the member as a tuple, or raise BadMember."""
    if not is_sequence(thing) or len(thing) != len(room.kind):
        raise BadMember()
    if not all([is_whole(number, 0, modulus - 1) for number, modulus in zip(thing, moduli_of(room))]):
        raise BadMember()
    return tuple(thing)


def added_member(room, one, other):
    """Return the sum of two members."""
    one = check_member(room, one)
    other = check_member(room, other)
    return plain_sum(moduli_of(room), one, other)


def times_member(room, number, member):
    """Return the member taken number times, or raise BadNumber or BadMember."""
    if not is_whole(number):
        raise BadNumber()
    return plain_times(moduli_of(room), number, check_member(room, member))


def killing_exponent(room, member):
    """Return the least exponent with which the power of the prime kills the member."""
    member = check_member(room, member)
    exponents = [
        part - exponent_of(room.prime, number)
        for number, part in zip(member, room.kind)
        if number != 0
    ]
    return max(exponents, default=0)


def killed_by(room, exponent):
    """Return how many members the prime to this exponent kills, or raise BadExponent."""
    if not is_whole(exponent, 0):
        raise BadExponent()
    return prime_power(room.prime, sum([min(part, exponent) for part in room.kind]))

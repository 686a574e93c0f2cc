"""Kinds of rooms within: of their members, and of the rests that they leave."""

from threeshapes.errors import BadMember, NoWithin
from threeshapes.numbers import exponent_of, is_sequence, prime_power
from threeshapes.rooms import MOST_PARTS, check_member, killing_exponent, moduli_of, nought_of, plain_times
from threeshapes.shapes import check_kind, kind_of_shape, turned_about
from threeshapes.within import all_within, check_within, spanned_by, times_within


def kind_of_within(room, within):
    """Return the kind of the room within."""
    return _kind_of_members(room, check_within(room, within))


def _kind_of_members(room, within):
    """Return the kind of the room within, which is not checked."""
    exponents = [killing_exponent(room, member) for member in within]
    return _kind_of_exponents(room, exponents, 1)


def _kind_of_exponents(room, exponents, times):
    """Return the kind of a room whose members have these killing exponents, each exponent told so many times."""
    columns = []
    sums = 0
    for most in range(1, max(exponents) + 1):
        killed = len([exponent for exponent in exponents if exponent <= most]) // times
        # In a room of the kind the killed ones are as many as the prime to the power of the first columns together.
        columns.append(exponent_of(room.prime, killed) - sums)
        sums = sums + columns[-1]
    return kind_of_shape(turned_about(columns))


def rest_kind(room, within):
    """Return the kind of the rests of the room within."""
    return _rest_of_members(room, check_within(room, within))


def _rest_of_members(room, within):
    """Return the rest kind of the room within, which is not checked."""
    known = set(within)
    moduli = moduli_of(room)
    exponents = []
    for member in room.members:
        exponent = 0
        step = member
        while step not in known:
            step = plain_times(moduli, room.prime, step)
            exponent = exponent + 1
        exponents.append(exponent)
    # Each rest is met at each of its members, which are as many as those of the room within.
    return _kind_of_exponents(room, exponents, len(within))


def chain_of_within(room, within):
    """Return the rest kinds of the room within taken p to the i times, from its own to the room's kind."""
    within = check_within(room, within)
    kinds = [_rest_of_members(room, within)]
    for _ in range(max([killing_exponent(room, member) for member in within])):
        within = times_within(room, room.prime, within)
        kinds.append(_rest_of_members(room, within))
    return tuple(kinds)


def basis_of_within(room, within):
    """Return a basis of the room within."""
    within = check_within(room, within)
    basis = []
    for part in _kind_of_members(room, within):
        basis.append(_next_of_basis(room, within, basis, part))
    return tuple(basis)


def _next_of_basis(room, within, basis, part):
    """Return the first member with this killing exponent that makes no sum twice, behind these of the basis."""
    sums = set(spanned_by(room, basis))
    moduli = moduli_of(room)
    power = prime_power(room.prime, part - 1)
    fitting = [
        member for member in within
        if killing_exponent(room, member) == part and plain_times(moduli, power, member) not in sums
    ]
    return fitting[0]


def basis_fault(room, within, basis):
    """Return None for a basis of the room within, otherwise the first word that applies."""
    within = check_within(room, within)
    if not is_sequence(basis):
        return "member"
    try:
        members = [check_member(room, thing) for thing in basis]
    except BadMember:
        return "member"
    if not all([member in within for member in members]):
        return "member"
    if tuple([killing_exponent(room, member) for member in members]) != _kind_of_members(room, within):
        return "kind"
    # There are as many sums as members, so they are unlike just if each member is one of them.
    if spanned_by(room, members) != within:
        return "sum"
    return None


def find_within(room, kind, rest):
    """Return the first room within of this kind and this rest kind, or raise NoWithin."""
    kind = check_kind(kind, MOST_PARTS)
    rest = check_kind(rest, MOST_PARTS)
    # Asked ahead, because the parts may be of any size.
    if sum(kind) + sum(rest) != sum(room.kind):
        raise NoWithin()
    size = prime_power(room.prime, sum(kind))
    for within in all_within(room):
        if len(within) == size and _has_kinds(room, within, kind, rest):
            return within
    raise NoWithin()


def _has_kinds(room, within, kind, rest):
    return _kind_of_members(room, within) == kind and _rest_of_members(room, within) == rest

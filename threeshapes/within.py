"""Rooms within rooms: sets of members that contain nought and all sums of their members."""

from threeshapes.errors import BadMember, BadNumber, BadWithin
from threeshapes.numbers import is_sequence, is_whole, prime_power
from threeshapes.rooms import check_member, moduli_of, nought_of, plain_sum, plain_times


def check_within(room, thing):
    """Return the room within as the ascending tuple of its members, or raise BadWithin."""
    if not is_sequence(thing):
        raise BadWithin("member")
    try:
        members = sorted(set([check_member(room, member) for member in thing]))
    except BadMember:
        raise BadWithin("member") from None
    # All sums, and nought, are there just if nothing has to be added to them.
    if len(spanned_by(room, members)) != len(members):
        raise BadWithin("added")
    return tuple(members)


def spanned_by(room, members):
    """Return the least room within that contains these members; nothing is checked."""
    moduli = moduli_of(room)
    found = [nought_of(room)]
    known = set([nought_of(room)])
    for member in members:
        smaller = list(found)
        step = member
        # As long as a multiple is not known, all its sums with the smaller room within are new.
        while step not in known:
            for one in smaller:
                total = plain_sum(moduli, one, step)
                found.append(total)
                known.add(total)
            step = plain_sum(moduli, step, member)
    return tuple(sorted(found))


def made_within(room, members):
    """Return the least room within that contains all these members, or raise BadMember."""
    if not is_sequence(members):
        raise BadMember()
    return spanned_by(room, [check_member(room, member) for member in members])


def joined_within(room, one, other):
    """Return the room within of all sums of a member of one and a member of other."""
    one = check_within(room, one)
    other = check_within(room, other)
    return spanned_by(room, one + other)


def shared_within(room, one, other):
    """Return the room within of the members in both."""
    one = check_within(room, one)
    others = set(check_within(room, other))
    return tuple([member for member in one if member in others])


def times_within(room, number, within):
    """Return the room within of the members taken number times, or raise BadNumber or BadWithin."""
    if not is_whole(number):
        raise BadNumber()
    moduli = moduli_of(room)
    within = check_within(room, within)
    return tuple(sorted(set([plain_times(moduli, number, member) for member in within])))


def facing_within(room, within):
    """Return the room within of the members whose weighed products with all members of the given one are nought."""
    within = check_within(room, within)
    if room.kind == ():
        return within
    first = room.kind[0]
    weights = [prime_power(room.prime, first - part) for part in room.kind]
    modulus = prime_power(room.prime, first)
    return tuple([
        facing for facing in room.members
        if all([_weighed(weights, member, facing) % modulus == 0 for member in within])
    ])


def _weighed(weights, one, other):
    return sum([weight * number * times for weight, number, times in zip(weights, one, other)])


def all_within(room):
    """Yield all rooms within the room, those with fewer members first, those of one size ascending."""
    level = [(nought_of(room),)]
    while level:
        for within in level:
            yield within
        level = _greater_level(room, level)


def _greater_level(room, level):
    """Return, ascending, all rooms within that have one of these within them and p times as many members."""
    found = {}
    for within in level:
        for greater in _next_greater(room, within):
            found[greater] = True
    return sorted(found)


def _next_greater(room, within):
    """Return all rooms within that have this one within them and p times as many members."""
    moduli = moduli_of(room)
    smaller = set(within)
    covered = set(within)
    found = []
    for member in room.members:
        if member not in covered and plain_times(moduli, room.prime, member) in smaller:
            greater = []
            for times in range(room.prime):
                step = plain_times(moduli, times, member)
                greater.extend([plain_sum(moduli, one, step) for one in within])
            for one in greater:
                covered.add(one)
            found.append(tuple(sorted(greater)))
    return found

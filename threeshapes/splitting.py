"""Splitting: from a room within to the two tables of whole numbers that belong to it."""

from threeshapes.rooms import moduli_of
from threeshapes.tables import diagonal_of, flipped_table
from threeshapes.within import check_within


def tables_of_within(room, within):
    """Return the two tables whose product is the diagonal table of the kind and the first of which makes within."""
    within = check_within(room, within)
    # The kind () has a row, too, though its member has no entry.
    if room.kind == ():
        return (((1,),), ((1,),))
    moduli = moduli_of(room)
    one = flipped_table([_leading_column(within, moduli, at) for at in range(len(moduli))])
    return (one, _quotient(one, moduli))


def _leading_column(within, moduli, at):
    """Return the column with noughts ahead of this entry and the least numbers that the room within has behind."""
    leading = [member for member in within if not any(member[:at]) and member[at] != 0]
    # The members ascend, so the first one has the least number there, and then the least one in each later entry.
    return leading[0] if leading else diagonal_of(moduli)[at]


def _quotient(one, moduli):
    """Return the table other for which one times other is the diagonal table of the moduli."""
    rows = []
    for at, wanted in enumerate(diagonal_of(moduli)):
        row = list(wanted)
        for times, above in zip(one[at], rows):
            row = [number - times * less for number, less in zip(row, above)]
        # The columns of the diagonal table are sums of multiples of those of one, so nothing is left over.
        rows.append(tuple([number // one[at][at] for number in row]))
    return tuple(rows)

"""Splitting: from a room within to the two tables of whole numbers that belong to it."""

from threeshapes.rooms import moduli_of
from threeshapes.tables import diagonal_of, flipped_table
from threeshapes.within import check_within


def tables_of_within(room, within):
    """Return the two tables whose product is the diagonal table of the kind and the first of which makes within."""
    within = check_within(room, within)
    # The room of kind () has one row, too; its one member has one entry there, which counts modulo 1.
    moduli = moduli_of(room) or (1,)
    members = within if room.kind != () else ((0,),)
    one = _table_of_members(members, moduli)
    return (one, _quotient(one, moduli))


def _table_of_members(members, moduli):
    """Return the table with noughts right of its diagonal whose columns make the room within."""
    size = len(moduli)
    columns = []
    # The last column first, because the later ones are taken from it to bring its numbers into their bounds.
    for at in range(size - 1, -1, -1):
        column = _leading_column(members, moduli, at)
        for row in range(at + 1, size):
            later = columns[size - 1 - row]
            times = column[row] // later[row]
            column = [number - times * less for number, less in zip(column, later)]
        columns.append(column)
    return flipped_table(columns[::-1])


def _leading_column(members, moduli, at):
    """Return the member with noughts ahead of this entry and the least number from 1 in it, or the whole modulus."""
    leading = [member for member in members if not any(member[:at]) and member[at] != 0]
    if not leading:
        return list(diagonal_of(moduli)[at])
    # The members ascend, so the first of those has the least number there.
    return list(leading[0])


def _quotient(one, moduli):
    """Return the table other for which one times other is the diagonal table of the moduli."""
    rows = []
    for at, wanted in enumerate(diagonal_of(moduli)):
        row = list(wanted)
        for times, above in zip(one[at], rows):
            row = [number - times * less for number, less in zip(row, above)]
        # All rows of one together make a room within, so nothing is left over.
        rows.append(tuple([number // one[at][at] for number in row]))
    return tuple(rows)

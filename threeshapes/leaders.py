"""Rooms of tables: the rests of columns by the columns of a table, and leaders to them."""

from threeshapes.errors import UnlikeSizes
from threeshapes.numbers import check_prime, is_sequence, is_whole
from threeshapes.rooms import Room, moduli_of, nought_of
from threeshapes.shapes import kind_of_shape
from threeshapes.tables import check_table, flipped_table, identity_table, times_table
from threeshapes.turning import shape_of, turn_table
from threeshapes.within import spanned_by


class Leader:
    """A room, and a row of whole numbers for each part of its kind, by which columns are led to members."""

    def __init__(self, room, rows):
        self.room = room
        self.rows = rows


class ProductRoom:
    """A leader of a product of two tables, and the room within that the columns of the first one make."""

    def __init__(self, leader, within):
        self.leader = leader
        self.within = within


def leader_of_table(prime, table):
    """Return a leader for the table, or raise TooLarge if its room would have too many members."""
    turned = turn_table(prime, table)
    room = Room(prime, kind_of_shape(turned.shape))
    # Left times the table has, in each row, only multiples of the power on the diagonal.
    rows = [
        tuple([number % modulus for number in row])
        for row, modulus in zip(turned.left, moduli_of(room))
    ]
    return Leader(room, tuple(rows))


def led_member(leader, column):
    """Return the member to which the column is led; nothing is checked."""
    return tuple([
        sum([number * times for number, times in zip(row, column)]) % modulus
        for row, modulus in zip(leader.rows, moduli_of(leader.room))
    ])


def leader_fault(prime, table, leader):
    """Return None if the leader is right for the table, otherwise the first word that applies."""
    check_prime(prime)
    table = check_table(table, "long")
    kind = kind_of_shape(shape_of(prime, table))
    room = leader.room
    if not isinstance(room, Room) or room.prime != prime or room.kind != kind:
        return "room"
    if not _are_rows(room, leader.rows, len(table)):
        return "rows"
    if not all([led_member(leader, column) == nought_of(room) for column in flipped_table(table)]):
        return "column"
    led = [led_member(leader, column) for column in identity_table(len(table))]
    if len(spanned_by(room, led)) != room.size:
        return "missed"
    return None


def _are_rows(room, thing, long):
    """Tell whether thing is a sequence of rows of so many numbers, one row for each part, within its modulus."""
    if not is_sequence(thing) or len(thing) != len(room.kind):
        return False
    for row, modulus in zip(thing, moduli_of(room)):
        if not is_sequence(row) or len(row) != long:
            return False
        if not all([is_whole(number, 0, modulus - 1) for number in row]):
            return False
    return True


def within_of_product(prime, one, other):
    """Return a leader of the product of the tables, with the room within made by the columns of one."""
    check_prime(prime)
    one = check_table(one, "square")
    other = check_table(other, "long")
    if len(one) != len(other):
        raise UnlikeSizes()
    leader = leader_of_table(prime, times_table(one, other))
    led = [led_member(leader, column) for column in flipped_table(one)]
    return ProductRoom(leader, spanned_by(leader.room, led))

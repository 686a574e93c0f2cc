"""What the tests share: the check of an error, and plain counts that take nothing from the package."""

import itertools
import unittest

from threeshapes.errors import TableError

BIG = 10 ** 399 + 7 * 10 ** 200 + 3

# What is no prime, no whole number, no sequence; and what is no square table, no shape, no kind, with the words.
NO_PRIMES = (0, 1, 4, 6, 7, -2, True, False, None, 2.0, "2", (2,), [3], BIG)
NO_WHOLE = (True, False, None, 1.0, "1", (1,), [0])
NO_SEQUENCES = (None, 7, True, "ab", b"ab", {0: 1}, {1}, range(2), iter(()))
NO_SQUARES = (
    (None, "rows"), (7, "rows"), ("12", "rows"), ((), "rows"), (((1,),) * 9, "rows"), ({0: (1,)}, "rows"),
    ((1,), "columns"), (((),), "columns"), (((1, 2), (3,)), "columns"), (("12", "34"), "columns"),
    (((1,) * 9,) * 2, "columns"), (((True,),), "number"), (((1, 2), (3, 1.0)), "number"), (((None,),), "number"),
    (((1, 2),), "square"), (((1,), (2,)), "square"), (((1, 0, 0), (0, 1, 0)), "square"), (((1,) * 5,) * 5, "square"),
)
NO_SHAPES = (
    (None, "many"), (7, "many"), ("21", "many"), ((), "many"), ({1: 1}, "many"), ((True, 0), "number"),
    ((1, -1), "number"), ((1.0,), "number"), ((None,), "number"), ((1, 2), "falling"), ((2, 0, 1), "falling"),
)
NO_KINDS = (
    (None, "many"), (7, "many"), ("21", "many"), ({1: 1}, "many"), ((True,), "number"), ((1, 0), "number"),
    ((0,), "number"), ((1, -1), "number"), ((1.0,), "number"), ((None,), "number"), ((1, 2), "falling"),
    ((2, 1, 3), "falling"),
)


class PlainCase(unittest.TestCase):
    def assert_refused(self, error, fields, function, *given, **named):
        """The call raises just this error, and its attributes are just these, in this order."""
        with self.assertRaises(TableError) as caught:
            function(*given, **named)
        self.assertIs(caught.exception.__class__, error)
        found = tuple(vars(caught.exception).values())
        self.assertEqual(found, tuple(fields))
        self.assertEqual([value.__class__ for value in found], [value.__class__ for value in fields])

    def assert_tuples(self, thing):
        """The thing is a number, a text, or a tuple of such things all the way down."""
        if isinstance(thing, tuple):
            for item in thing:
                self.assert_tuples(item)
        else:
            self.assertIn(thing.__class__, (int, str))


def falling_rows(length, most):
    """All falling tuples of so many whole numbers from 0 to most, ascending."""
    rows = itertools.product(range(most + 1), repeat=length)
    return [row for row in rows if all(part >= later for part, later in zip(row, row[1:]))]


def shapes_of_sum(length, total, most=None):
    """All falling tuples of so many whole numbers from 0 with this sum, none above most, ascending."""
    if length == 0:
        return [()] if total == 0 else []
    top = total if most is None else min(total, most)
    return [
        (first,) + rest
        for first in range(top + 1)
        for rest in shapes_of_sum(length - 1, total - first, first)
    ]


def small_fillings(sizes=((1, 4), (2, 3), (3, 2))):
    """(before, content, after, counts) of all fillings of so many rows with parts of before and content to a most."""
    for size, most in sizes:
        for before in falling_rows(size, most):
            for content in falling_rows(size, most):
                for after in falling_rows(size, 2 * most):
                    if sum(before) + sum(content) == sum(after):
                        for counts in plain_fillings(before, content, after):
                            yield before, content, after, counts


def drawn_shape(chance, length, most):
    return tuple(sorted(chance.choices(range(most + 1), k=length), reverse=True))


def drawn_after(chance, before, content):
    """A shape with the sum of both; parts that are drawn together have more fillings, but there may be none."""
    length = len(before)
    after = [part + more for part, more in zip(before, chance.sample(content, length))]
    for _ in range(chance.randint(0, 6) if length > 1 else 0):
        one, other = chance.sample(range(length), 2)
        if after[one] > after[other] + 1:
            after[one] -= 1
            after[other] += 1
    return tuple(sorted(after, reverse=True))


def plain_determinant(table):
    """The determinant as the sum over all arrangements of the columns."""
    total = 0
    for order in itertools.permutations(range(len(table))):
        term = 1
        for row, column in zip(table, order):
            term *= row[column]
        for one, other in itertools.combinations(order, 2):
            if one > other:
                term = -term
        total += term
    return total


def plain_product(one, other):
    return tuple(
        tuple(sum(row[at] * other[at][column] for at in range(len(other))) for column in range(len(other[0])))
        for row in one
    )


def plain_exponent(prime, number):
    exponent = 0
    while number % prime ** (exponent + 1) == 0:
        exponent += 1
    return exponent


def plain_cut_outs(table, size):
    for rows in itertools.combinations(range(len(table)), size):
        for columns in itertools.combinations(range(len(table[0])), size):
            yield [[table[row][column] for column in columns] for row in rows]


def plain_least(prime, table, size):
    numbers = [plain_determinant(part) for part in plain_cut_outs(table, size)]
    return min((plain_exponent(prime, number) for number in numbers if number), default=None)


def plain_shape(prime, table):
    """The shape of a table that is not flat, by the determinants of all cut-outs."""
    leasts = [0] + [plain_least(prime, table, size + 1) for size in range(len(table))]
    return tuple(leasts[at] - leasts[at - 1] for at in range(len(table), 0, -1))


def plain_flipped(table):
    return tuple(tuple(row[at] for row in table) for at in range(len(table[0])))


def drawn_invertible(chance, prime, size, most=9):
    """A square table whose determinant the prime does not divide."""
    while True:
        table = tuple(tuple(chance.randint(-most, most) for _ in range(size)) for _ in range(size))
        if plain_determinant(table) % prime:
            return table


def drawn_inverses(chance, size):
    """Two square tables whose product is the identity table, both ways."""
    ahead = tuple(tuple(int(row == column) for column in range(size)) for row in range(size))
    back = ahead
    for _ in range(8 if size > 1 else 0):
        one, other = chance.sample(range(size), 2)
        number = chance.randint(-3, 3)
        step = [[int(row == column) for column in range(size)] for row in range(size)]
        undone = [list(row) for row in step]
        step[one][other], undone[one][other] = number, -number
        ahead = plain_product(ahead, step)
        back = plain_product(undone, back)
    return ahead, back


def drawn_turned(chance, prime, table):
    """The table between two invertible ones: another table of the same shape."""
    ahead = drawn_invertible(chance, prime, len(table))
    behind = drawn_invertible(chance, prime, len(table[0]))
    return plain_product(plain_product(ahead, table), behind)


def drawn_square(chance, prime, size, most=9):
    """A square table that is not flat, often with many factors of the prime."""
    while True:
        table = tuple(
            tuple(chance.randint(-most, most) * prime ** chance.choice((0, 0, 1, 2)) for _ in range(size))
            for _ in range(size)
        )
        if plain_determinant(table):
            return table


def rows_of_sum(total, bounds):
    """All tuples of whole numbers from 0 with this sum that are nowhere above the bounds, ascending."""
    rows = itertools.product(*[range(min(total, bound) + 1) for bound in bounds])
    return [row for row in rows if sum(row) == total]


def plain_chain(before, counts):
    chain = [tuple(before)]
    for at, row in enumerate(counts):
        grown = list(chain[-1])
        for place, number in enumerate(row):
            grown[at + place] += number
        chain.append(tuple(grown))
    return tuple(chain)


def keeps_rules(before, counts, after):
    """Whether the counts keep the rules AFTER, COLUMN and WORD, written as in [2.1]."""
    size = len(before)
    chain = plain_chain(before, counts)

    def stands(letter, row):
        return counts[letter - 1][row - letter]

    if chain[size] != tuple(after):
        return False
    for step in range(1, size + 1):
        for part in range(1, size):
            if chain[step][part] > chain[step - 1][part - 1]:
                return False
    for letter in range(1, size):
        for row in range(letter, size):
            ahead = sum(stands(letter, at) for at in range(letter, row + 1))
            if sum(stands(letter + 1, at) for at in range(letter + 1, row + 2)) > ahead:
                return False
    return True


def plain_fillings(before, content, after):
    """The counts of all fillings, ascending, by trying all counts with the sums of the content."""
    size = len(before)
    content = tuple(content) + (0,) * (size - len(content))
    if any(content[size:]):
        return []
    bounds = [max(0, more - less) for more, less in zip(after, before)]
    choices = [rows_of_sum(content[at], bounds[at:]) for at in range(size)]
    found = []

    def go_on(counts, left):
        if len(counts) == size:
            if not any(left) and keeps_rules(before, counts, after):
                found.append(tuple(counts))
            return
        at = len(counts)
        for row in choices[at]:
            rest = [number - taken for number, taken in zip(left[at:], row)]
            if min(rest) >= 0:
                go_on(counts + [row], left[:at] + rest)

    if all(more >= less for more, less in zip(after, before)):
        go_on([], bounds)
    return found

"""What the tests share: the check of an error, and plain counts that take nothing from the package."""

import itertools
import unittest

from threeshapes.errors import TableError

BIG = 10 ** 399 + 7 * 10 ** 200 + 3


class PlainCase(unittest.TestCase):
    def assert_refused(self, error, fields, function, *given, **named):
        """The call raises just this error, and its attributes are just these, in this order."""
        with self.assertRaises(TableError) as caught:
            function(*given, **named)
        self.assertIs(caught.exception.__class__, error)
        found = tuple(vars(caught.exception).values())
        self.assertEqual(found, tuple(fields))
        self.assertEqual([value.__class__ for value in found], [value.__class__ for value in fields])

    def assert_tuples(self, thing):
        """The thing is a number, a text, or a tuple of such things all the way down."""
        if isinstance(thing, tuple):
            for item in thing:
                self.assert_tuples(item)
        else:
            self.assertIn(thing.__class__, (int, str))


def falling_rows(length, most):
    """All falling tuples of so many whole numbers from 0 to most, ascending."""
    rows = itertools.product(range(most + 1), repeat=length)
    return [row for row in rows if all(part >= later for part, later in zip(row, row[1:]))]


def shapes_of_sum(length, total, most=None):
    """All falling tuples of so many whole numbers from 0 with this sum, none above most, ascending."""
    if length == 0:
        return [()] if total == 0 else []
    top = total if most is None else min(total, most)
    return [
        (first,) + rest
        for first in range(top + 1)
        for rest in shapes_of_sum(length - 1, total - first, first)
    ]


def drawn_shape(chance, length, most):
    return tuple(sorted(chance.choices(range(most + 1), k=length), reverse=True))


def drawn_after(chance, before, content):
    """A shape with the sum of both; parts that are drawn together have more fillings, but there may be none."""
    length = len(before)
    after = [part + more for part, more in zip(before, chance.sample(content, length))]
    for _ in range(chance.randint(0, 6) if length > 1 else 0):
        one, other = chance.sample(range(length), 2)
        if after[one] > after[other] + 1:
            after[one] -= 1
            after[other] += 1
    return tuple(sorted(after, reverse=True))


def plain_determinant(table):
    """The determinant as the sum over all arrangements of the columns."""
    total = 0
    for order in itertools.permutations(range(len(table))):
        term = 1
        for row, column in zip(table, order):
            term *= row[column]
        for one, other in itertools.combinations(order, 2):
            if one > other:
                term = -term
        total += term
    return total


def plain_product(one, other):
    return tuple(
        tuple(sum(row[at] * other[at][column] for at in range(len(other))) for column in range(len(other[0])))
        for row in one
    )


def plain_exponent(prime, number):
    exponent = 0
    while number % prime ** (exponent + 1) == 0:
        exponent += 1
    return exponent


def rows_of_sum(total, bounds):
    """All tuples of whole numbers from 0 with this sum that are nowhere above the bounds, ascending."""
    rows = itertools.product(*[range(min(total, bound) + 1) for bound in bounds])
    return [row for row in rows if sum(row) == total]


def plain_chain(before, counts):
    chain = [tuple(before)]
    for at, row in enumerate(counts):
        grown = list(chain[-1])
        for place, number in enumerate(row):
            grown[at + place] += number
        chain.append(tuple(grown))
    return tuple(chain)


def keeps_rules(before, counts, after):
    """Whether the counts keep the rules AFTER, COLUMN and WORD, written as in [2.1]."""
    size = len(before)
    chain = plain_chain(before, counts)

    def stands(letter, row):
        return counts[letter - 1][row - letter]

    if chain[size] != tuple(after):
        return False
    for step in range(1, size + 1):
        for part in range(1, size):
            if chain[step][part] > chain[step - 1][part - 1]:
                return False
    for letter in range(1, size):
        for row in range(letter, size):
            ahead = sum(stands(letter, at) for at in range(letter, row + 1))
            if sum(stands(letter + 1, at) for at in range(letter + 1, row + 2)) > ahead:
                return False
    return True


def plain_fillings(before, content, after):
    """The counts of all fillings, ascending, by trying all counts with the sums of the content."""
    size = len(before)
    content = tuple(content) + (0,) * (size - len(content))
    if any(content[size:]):
        return []
    bounds = [max(0, more - less) for more, less in zip(after, before)]
    choices = [rows_of_sum(content[at], bounds[at:]) for at in range(size)]
    found = []

    def go_on(counts, left):
        if len(counts) == size:
            if not any(left) and keeps_rules(before, counts, after):
                found.append(tuple(counts))
            return
        at = len(counts)
        for row in choices[at]:
            rest = [number - taken for number, taken in zip(left[at:], row)]
            if min(rest) >= 0:
                go_on(counts + [row], left[:at] + rest)

    if all(more >= less for more, less in zip(after, before)):
        go_on([], bounds)
    return found

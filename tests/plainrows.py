"""Plain reckonings of rows of factors, of woven shapes and of row chains for the tests; nothing is the package's own."""

import functools
import itertools

from tests.plain import drawn_turned, falling_rows, plain_fillings, plain_shape, shapes_of_sum


@functools.lru_cache(maxsize=None)
def plain_count(before, content, after):
    """The number of fillings, by trying all counts."""
    return len(plain_fillings(before, content, after))


@functools.lru_cache(maxsize=None)
def plain_products(one, other):
    """All product shapes, ascending."""
    shapes = shapes_of_sum(len(one), sum(one) + sum(other))
    return tuple(shape for shape in shapes if plain_count(one, other, shape))


@functools.lru_cache(maxsize=None)
def plain_ways(factors):
    """The beginnings of all ways of the row, ascending."""
    ways = [(factors[0],)]
    for factor in factors[1:]:
        ways = [way + (shape,) for way in ways for shape in plain_products(way[-1], factor)]
    return tuple(sorted(ways))


def plain_row_shapes(factors):
    return tuple(sorted({way[-1] for way in plain_ways(factors)}))


def plain_way_count(factors, after):
    """The number of chains of fillings that come to after."""
    total = 0
    for way in plain_ways(factors):
        if way[-1] == after:
            number = 1
            for before, factor, shape in zip(way, factors[1:], way[1:]):
                number *= plain_count(before, factor, shape)
            total += number
    return total


def small_rows(sizes):
    """All rows of many factors of so many parts up to a most, for each (length, most, many)."""
    for length, most, many in sizes:
        for factors in itertools.product(falling_rows(length, most), repeat=many):
            yield factors


def drawn_rows(chance, number, sizes, total):
    """Rows that are drawn among those sizes, with sums together of at most the total."""
    while number:
        length, most, many = chance.choice(sizes)
        factors = tuple(
            tuple(sorted(chance.choices(range(most + 1), k=length), reverse=True)) for _ in range(many)
        )
        if sum(map(sum, factors)) <= total:
            number -= 1
            yield factors


def plain_diagonal(prime, shape):
    return tuple(
        tuple(prime ** part if row == column else 0 for column in range(len(shape)))
        for row, part in enumerate(shape)
    )


def drawn_of_shape(chance, prime, shape):
    """A square table of this shape, with entries of either sign."""
    return drawn_turned(chance, prime, plain_diagonal(prime, shape))


def plain_is_woven(shape, part):
    """The definition, with places counted from 1."""
    n, k = len(shape), len(part)
    return all(shape[n - k + i - 1] <= part[i - 1] <= shape[i - 1] for i in range(1, k + 1))


@functools.lru_cache(maxsize=None)
def plain_woven(shape, many):
    return tuple(part for part in falling_rows(many, shape[0]) if plain_is_woven(shape, part))


@functools.lru_cache(maxsize=None)
def plain_row_chains(shape):
    """All row chains of the shape, ascending."""
    if len(shape) == 1:
        return ((shape,),)
    chains = [chain + (shape,) for part in plain_woven(shape, len(shape) - 1) for chain in plain_row_chains(part)]
    return tuple(sorted(chains))


def plain_rises(chain):
    sums = [0] + [sum(shape) for shape in chain]
    return tuple(later - earlier for earlier, later in zip(sums, sums[1:]))


def plain_chain_of_table(prime, table):
    """The shapes of the first 1, 2, .. rows, by all cut-outs."""
    return tuple(plain_shape(prime, table[:many]) for many in range(1, len(table) + 1))


# No row of factors, with the word and the index.
NO_FACTORS = (
    (None, "many", 0), (7, "many", 0), ("21", "many", 0), ((), "many", 0), ([], "many", 0), ({0: (1,)}, "many", 0),
    (range(2), "many", 0), (iter(((1,),)), "many", 0),
    ((1, 0), "shape", 0), (((1, 0), 7), "shape", 1), (((1, 0), None), "shape", 1), (((1, 0), "10"), "shape", 1),
    (((),), "shape", 0), (((1,) * 5,), "shape", 0), (((1, 2),), "shape", 0), (((1, 0), (True, 0)), "shape", 1),
    (((1, 0), (1, 0), (0, -1)), "shape", 2), (((1, 0), (1.0, 0)), "shape", 1),
    (((1, 0), (1,)), "length", 1), (((1, 0), (1, 0), (1, 0, 0)), "length", 2), (((1,), (1, 0), (1,)), "length", 1),
    # Two wrong things: the first bad item is told, with its first word.
    (((1, 0), (1,), (1, 2)), "length", 1), (((1, 0), (1, 2), (1,)), "shape", 1), (((1, 0), (1, 2, 3)), "shape", 1),
    (((1, 2), (1,), (1, 0)), "shape", 0), (((1, 0), (1,) * 5), "shape", 1),
)


def plain_wide(prime, shape, wide):
    """A table of so many columns with the powers to the shape on its diagonal."""
    return tuple(row + (0,) * (wide - len(shape)) for row in plain_diagonal(prime, shape))


def drawn_wide(chance, prime, shape, wide):
    """A table of so many columns and of this shape, with entries of either sign."""
    return drawn_turned(chance, prime, plain_wide(prime, shape, wide))


# No tables of sort "long", with the word.
NO_LONGS = (
    (None, "rows"), (7, "rows"), ("12", "rows"), ((), "rows"), (((1,),) * 9, "rows"), ({0: (1,)}, "rows"),
    ((1,), "columns"), (((),), "columns"), (((1, 2), (3,)), "columns"), (("12", "34"), "columns"),
    (((1,) * 9,), "columns"), (((True,),), "number"), (((1, 2), (3, 1.0)), "number"), (((None,),), "number"),
    (((1,), (2,)), "long"), (((1, 0), (0, 1), (1, 1)), "long"), (((1,) * 8,) * 5, "long"),
)
# Flat tables of this sort.
FLAT_LONGS = (((0,),), ((0, 0, 0),), ((1, 2), (2, 4)), ((1, 2, 3), (0, 0, 0)), ((1, 0, 0, 5), (0, 1, 0, 6), (1, 1, 0, 11)))

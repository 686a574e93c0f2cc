"""Products of kinds: how many rooms within have a kind and a rest kind, as polys at the prime."""

from threeshapes.columncounts import column_poly, columns_of, kinds_of_sum
from threeshapes.errors import BadChain, TooMany
from threeshapes.numbers import check_prime, is_sequence
from threeshapes.polys import poly_at, poly_minus, poly_plus, poly_times
from threeshapes.shapes import check_kind

MOST_SUM = 6
MOST_KINDS = 8
# The product of no kinds.
UNIT = (((), (1,)),)


def mix_plus(one, other):
    """Return the sum of two mixes."""
    return _mix_of([*one, *other])


def _mix_of(couples):
    """Return the mix of these couples, in which a kind may come more than once."""
    polys = {}
    for kind, poly in couples:
        polys[kind] = poly_plus(polys.get(kind, ()), poly)
    return tuple([(kind, polys[kind]) for kind in sorted(polys) if polys[kind] != ()])


def _scaled_mix(mix, poly):
    """Return the mix with each poly taken times this one."""
    return _mix_of([(kind, poly_times(own, poly)) for kind, own in mix])


def mix_times(one, other):
    """Return the product of two mixes."""
    if len(one) == 0 or len(other) == 0:
        return ()
    _check_total(_greatest_sum(one) + _greatest_sum(other))
    found = ()
    for kind, poly in other:
        found = mix_plus(found, _scaled_mix(_times_kind(one, kind), poly))
    return found


def _check_total(total):
    if total > MOST_SUM:
        raise TooMany(MOST_SUM)


def _greatest_sum(mix):
    return max([sum(kind) for kind, _ in mix])


def _times_kind(mix, kind):
    """Return the product of the mix and a kind, by the form of the kind in products of columns."""
    found = ()
    for columns, poly in column_form(kind):
        found = mix_plus(found, _scaled_mix(_times_columns(mix, columns), poly))
    return found


def _times_columns(mix, columns):
    """Return the product of the mix and the column kinds with so many ones, one after another."""
    for ones in columns:
        couples = []
        for rest, poly in mix:
            for kind in kinds_of_sum(sum(rest) + ones):
                couples.append((kind, poly_times(poly, column_poly(rest, ones, kind))))
        mix = _mix_of(couples)
    return mix


def product_of_kinds(a, b):
    """Return the mix of all kinds with the number of rooms within of kind b with rest kind a in them."""
    a = check_kind(a)
    b = check_kind(b)
    _check_total(sum(a) + sum(b))
    # The product is the same both ways, and the form of a lesser sum is found sooner.
    if sum(a) < sum(b):
        a, b = b, a
    return _times_kind(((a, (1,)),), b)


def product_of_columns(columns):
    """Return the product of the column kinds with so many ones, one after another."""
    columns = check_kind(columns)
    _check_total(sum(columns))
    return _times_columns(UNIT, columns)


def column_form(kind):
    """Return the one way to make the kind of products of columns."""
    kind = check_kind(kind)
    _check_total(sum(kind))
    forms = {}
    for one in kinds_of_sum(sum(kind)):
        columns = columns_of(one)
        form = ((columns, (1,)),)
        # The kinds ahead of this one, whose forms are found already, are taken off the product of its columns.
        for ahead, poly in product_of_columns(columns):
            if ahead != one:
                form = mix_plus(form, _scaled_mix(forms[ahead], poly_minus((), poly)))
        forms[one] = form
    return forms[kind]


def count_poly(a, b, c):
    """Return the poly of the number of rooms within of kind b with rest kind a in a room of kind c."""
    a = check_kind(a)
    b = check_kind(b)
    c = check_kind(c)
    return _poly_of(product_of_kinds(a, b), c)


def _poly_of(mix, kind):
    """Return the poly of the kind in the mix, or the poly 0."""
    for one, poly in mix:
        if one == kind:
            return poly
    return ()


def within_count(prime, a, b, c):
    """Return the number of rooms within of kind b with rest kind a in a room of kind c at the prime."""
    check_prime(prime)
    return poly_at(count_poly(a, b, c), prime)


def chain_poly(kinds, kind):
    """Return the poly of the number of chains of rooms within one another whose rest kinds are these, in order."""
    if not is_sequence(kinds) or len(kinds) > MOST_KINDS:
        raise BadChain()
    kinds = [check_kind(one) for one in kinds]
    kind = check_kind(kind)
    _check_total(sum([sum(one) for one in kinds]))
    mix = UNIT
    for one in kinds:
        mix = _times_kind(mix, one)
    return _poly_of(mix, kind)

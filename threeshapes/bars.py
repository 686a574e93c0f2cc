"""Bars: the inequalities of sums that the shape of every product keeps."""

from threeshapes.errors import BadShape, BadSize, NotTight
from threeshapes.numbers import is_whole
from threeshapes.shapes import check_alike_shapes
from threeshapes.triples import check_triple, needful_triples

MOST_PARTS = 6


class Broken:
    """What is broken: the sum, or the bar of a triple (ones, others, sums), and its over."""

    def __init__(self, what, ones, others, sums, over):
        self.what = what
        self.ones = ones
        self.others = others
        self.sums = sums
        self.over = over


class Bars:
    """The bars for shapes of so many parts."""

    def __init__(self, length):
        if not is_whole(length, 1, MOST_PARTS):
            raise BadSize(length)
        self.length = length
        self.triples = needful_triples(length) if length > 1 else ()

    def first_broken(self, a, b, c):
        """Return what first_bar returns."""
        shapes = self._alike(a, b, c)
        broken = _broken_sum(shapes)
        if broken is not None:
            return broken
        for triple in self.triples:
            over = _over_of(shapes, triple)
            if over > 0:
                return Broken("bar", *triple, over)
        return None

    def all_broken(self, a, b, c):
        """Return the triples whose bars are broken."""
        shapes = self._alike(a, b, c)
        return tuple([triple for triple in self.triples if _over_of(shapes, triple) > 0])

    def all_tight(self, a, b, c):
        """Return the triples whose bars are tight."""
        shapes = self._alike(a, b, c)
        return tuple([triple for triple in self.triples if _over_of(shapes, triple) == 0])

    def _alike(self, a, b, c):
        shapes = check_alike_shapes((a, b, c), MOST_PARTS)
        if len(shapes[0]) != self.length:
            raise BadShape("many")
        return shapes


def _broken_sum(shapes):
    """Return what is broken if the sums do not agree, otherwise None."""
    a, b, c = shapes
    over = sum(c) - sum(a) - sum(b)
    return Broken("sum", (), (), (), over) if over != 0 else None


def _over_of(shapes, triple):
    """Return the over of the bar."""
    a, b, c = shapes
    ones, others, sums = triple
    return sum(_parts_at(c, sums)) - sum(_parts_at(a, ones)) - sum(_parts_at(b, others))


def _parts_at(shape, places):
    """Return the parts with these places, counted from 1."""
    return [shape[place - 1] for place in places]


def bar_over(a, b, c, triple):
    """Return the over of the bar of the triple: the sum of c over it less those of a and b."""
    shapes = check_alike_shapes((a, b, c), MOST_PARTS)
    return _over_of(shapes, check_triple(len(shapes[0]), triple))


def first_bar(a, b, c):
    """Return the first thing that is broken, or None if c is a product shape of a and b."""
    shapes = check_alike_shapes((a, b, c), MOST_PARTS)
    return Bars(len(shapes[0])).first_broken(*shapes)


def split_at(a, b, c, triple):
    """Return the shapes over the triple and those of the other places, or raise NotTight."""
    shapes = check_alike_shapes((a, b, c), MOST_PARTS)
    triple = check_triple(len(shapes[0]), triple)
    over = _over_of(shapes, triple)
    if over != 0:
        raise NotTight(over)
    return _split_pieces(shapes, triple)


def _split_pieces(shapes, triple):
    """Return the shapes over the triple and those of the other places."""
    inside = []
    outside = []
    for shape, places in zip(shapes, triple):
        inside.append(tuple(_parts_at(shape, places)))
        outside.append(tuple([part for place, part in enumerate(shape, 1) if place not in places]))
    return (tuple(inside), tuple(outside))


def pieces_of(a, b, c):
    """Return the pieces into which tight bars split the three shapes, as threes of shapes."""
    shapes = check_alike_shapes((a, b, c), MOST_PARTS)
    bars = [Bars(length) for length in range(1, len(shapes[0]) + 1)]
    pieces = []
    # The last of the waiting pieces is the first of the row.
    waiting = [shapes]
    while waiting:
        piece = waiting.pop()
        tight = bars[len(piece[0]) - 1].all_tight(*piece)
        if tight:
            inside, outside = _split_pieces(piece, tight[0])
            waiting.append(outside)
            waiting.append(inside)
        else:
            pieces.append(piece)
    return tuple(pieces)

"""The errors of the package: each stands straight under TableError and keeps its fields."""


class TableError(ValueError):
    """What every error of the package is."""


class BadPrime(TableError):
    """A prime is not 2, 3 or 5; prime is what was passed."""

    def __init__(self, prime):
        self.prime = prime


class BadTable(TableError):
    """A table is refused; what is the first word that applies."""

    def __init__(self, what):
        self.what = what


class BadShape(TableError):
    """A shape is refused; what is the first word that applies."""

    def __init__(self, what):
        self.what = what


class BadKind(TableError):
    """A kind is refused; what is the first word that applies."""

    def __init__(self, what):
        self.what = what


class BadMany(TableError):
    """A number of things is out of its bounds."""

    def __init__(self, many):
        self.many = many


class BadMore(TableError):
    """The exponent that turn_table adds is not from 0 to 400."""

    def __init__(self, more):
        self.more = more


class BadText(TableError):
    """A text is refused at the word or row with this index."""

    def __init__(self, index):
        self.index = index


class Flat(TableError):
    """All cut-outs of full size have the determinant 0."""


class NotInvertible(TableError):
    """The prime divides the determinant."""


class BadFilling(TableError):
    """A filling is refused; what is the first word that applies."""

    def __init__(self, what):
        self.what = what


class NoRow(TableError):
    """A filling has no such row."""

    def __init__(self, row):
        self.row = row


class NoFilling(TableError):
    """There is no filling with these shapes."""


class BadTriangle(TableError):
    """A triangle is refused; what is the first word that applies."""

    def __init__(self, what):
        self.what = what


class NoPlace(TableError):
    """A triangle has no number h(s, j)."""

    def __init__(self, s, j):
        self.s = s
        self.j = j


class BadStretch(TableError):
    """A number to stretch by is out of its bounds."""

    def __init__(self, by):
        self.by = by


class UnlikeTriangles(TableError):
    """Two triangles are not of one size."""


class BadSize(TableError):
    """A size is out of its bounds."""

    def __init__(self, size):
        self.size = size


class BadTriple(TableError):
    """A triple is refused; what is the first word that applies."""

    def __init__(self, what):
        self.what = what


class NotTight(TableError):
    """A bar is not tight; over is its over."""

    def __init__(self, over):
        self.over = over


class NoPart(TableError):
    """A shape has no such part."""

    def __init__(self, part):
        self.part = part


class NoLetter(TableError):
    """A filling has no such letter."""

    def __init__(self, letter):
        self.letter = letter


class TooLong(TableError):
    """A filling, a shape or a sum is longer than a function takes."""


class WrongShape(TableError):
    """A table has another shape than the one that is asked for."""


class UnlikeSizes(TableError):
    """Two tables have unlike numbers of rows."""


class BadStrands(TableError):
    """The strand with this index is refused."""

    def __init__(self, index):
        self.index = index


class TooLarge(TableError):
    """A room has more members than most."""

    def __init__(self, most):
        self.most = most


class BadMember(TableError):
    """A thing is no member of the room."""


class BadNumber(TableError):
    """A number to take a member by is no whole number."""


class BadExponent(TableError):
    """An exponent is no whole number from 0."""


class BadWithin(TableError):
    """A room within is refused; what is the first word that applies."""

    def __init__(self, what):
        self.what = what


class NoWithin(TableError):
    """There is no room within of this kind and rest kind."""


class BadPoly(TableError):
    """A poly is not made of a sequence of whole numbers."""


class TooMany(TableError):
    """A sum is above most."""

    def __init__(self, most):
        self.most = most


class BadChain(TableError):
    """A chain is no sequence of at most 8 things."""


class BadFactors(TableError):
    """A row of factors is refused, by this word at this index."""

    def __init__(self, what, index):
        self.what = what
        self.index = index


class BadBeginnings(TableError):
    """The beginning with this index is refused."""

    def __init__(self, index):
        self.index = index


class BadTables(TableError):
    """The table with this index is refused."""

    def __init__(self, index):
        self.index = index


class BadPlace(TableError):
    """A place is out of its bounds."""


class NoWay(TableError):
    """No way comes to this shape."""


class Idle(TableError):
    """The allowed shape with this index has the sum 0."""

    def __init__(self, index):
        self.index = index


class Unreached(TableError):
    """No row of the allowed shapes has this product shape."""


class BadRow(TableError):
    """A row is out of its bounds."""

    def __init__(self, row):
        self.row = row


class BadRises(TableError):
    """Rises are refused."""


class FullTable(TableError):
    """A table has no room for one more row."""


class NotWoven(TableError):
    """A shape of many parts is not woven into the other, at this place."""

    def __init__(self, many, place):
        self.many = many
        self.place = place


class BadBook(TableError):
    """A book is refused, by this word at this place."""

    def __init__(self, what, place):
        self.what = what
        self.place = place


class BadSayings(TableError):
    """The saying with this index is refused."""

    def __init__(self, index):
        self.index = index


class BadPool(TableError):
    """The saying of a pool with this index is refused."""

    def __init__(self, index):
        self.index = index


class BadWhat(TableError):
    """What is asked for is neither a mend nor a block."""


class Shut(TableError):
    """The book of the places up to this one has no reading."""

    def __init__(self, place):
        self.place = place


class NothingDone(TableError):
    """There is no deed to take back."""


class BadDeed(TableError):
    """The deed with this index is refused."""

    def __init__(self, index):
        self.index = index

"""The errors that Guardsums raises, each with its fields as they were handed in."""


class SumsError(ValueError):
    """Every error of Guardsums is one of these."""


class BadModulus(SumsError):
    """What was to be the modulus is no integer within its limits."""

    def __init__(self, number):
        self.number = number


class NotUndone(SumsError):
    """The matrix cannot be undone modulo M."""


class TooMany(SumsError):
    """There are many of what, more than most, or none where there must be some."""

    def __init__(self, what, many, most):
        self.what = what
        self.many = many
        self.most = most


class BadKind(SumsError):
    """What was to be a kind of changes is none."""

    def __init__(self, kind):
        self.kind = kind


class BadSize(SumsError):
    """What was to be a size is no integer within its limits."""

    def __init__(self, size):
        self.size = size


class BadWidth(SumsError):
    """What was to be a width is no integer within its limits."""

    def __init__(self, width):
        self.width = width


class BadOver(SumsError):
    """A fraction has no number over 0."""


class OtherForm(SumsError):
    """Two things that belong together are of different forms."""


class BadBlock(SumsError):
    """What was to be a plain block is none."""


class BadRule(SumsError):
    """The rule of this name in a great block is none."""

    def __init__(self, name):
        self.name = name


class BadSymbol(SumsError):
    """The element with this index is no symbol."""

    def __init__(self, index):
        self.index = index


class BadMatrix(SumsError):
    """The row of a matrix with this index is wrong, or missing."""

    def __init__(self, index):
        self.index = index


class BadColumns(SumsError):
    """The row of the columns with this index is wrong, or missing."""

    def __init__(self, index):
        self.index = index


class BadStart(SumsError):
    """The number of the start with this index is wrong, or missing."""

    def __init__(self, index):
        self.index = index


class BadEnd(SumsError):
    """The number of the end with this index is wrong, or missing."""

    def __init__(self, index):
        self.index = index


class BadState(SumsError):
    """The number of a state with this index is wrong, or missing."""

    def __init__(self, index):
        self.index = index


class BadPolynomial(SumsError):
    """What was to be a polynomial is none."""

    def __init__(self, polynomial):
        self.polynomial = polynomial


class BadNumber(SumsError):
    """What was to be a number is no integer within its limits."""

    def __init__(self, number):
        self.number = number


class BadMending(SumsError):
    """What was to be a rule that mends sums is none."""


class Ring(SumsError):
    """The rule of this name stands below itself."""

    def __init__(self, name):
        self.name = name


class NoRule(SumsError):
    """What was to be the root is the name of no rule."""

    def __init__(self, root):
        self.root = root


class BadPlace(SumsError):
    """What was to be a place is none."""

    def __init__(self, place):
        self.place = place


class BadChange(SumsError):
    """The element with this index is no change."""

    def __init__(self, index):
        self.index = index


class BadTold(SumsError):
    """What was to be a told sum is none."""


class BadSample(SumsError):
    """The element with this index is no sample."""

    def __init__(self, index):
        self.index = index


class OtherGuard(SumsError):
    """Guard and block have not one modulus and one width."""

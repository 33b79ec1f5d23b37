"""The errors of the package: each is a SeenError, and none is a subclass of another one."""


class SeenError(ValueError):
    """The base of all errors of the package."""


class BadPrime(SeenError):
    """Something is no prime."""

    def __init__(self, prime):
        self.prime = prime


class BadTerm(SeenError):
    """The thing at this index is no pair of an offset and a coefficient."""

    def __init__(self, index):
        self.index = index


class UnlikePrimes(SeenError):
    """Two objects have unlike primes."""


class ZeroFilter(SeenError):
    """A filter has no terms where it needs some."""


class BadRule(SeenError):
    """Something is no filter with terms."""


class BadDigits(SeenError):
    """Something is no list of just so many digits."""


class BadWidth(SeenError):
    """Something is no integer from 1 on."""

    def __init__(self, width):
        self.width = width


class BadRow(SeenError):
    """The thing at this index is no row of the width and prime."""

    def __init__(self, index):
        self.index = index


class UnlikeTables(SeenError):
    """Two tables have unlike primes, or widths that do not fit."""


class BadSequences(SeenError):
    """Something is no list of just so many sequences of the prime."""


class NoRows(SeenError):
    """A table has no rows where it needs some."""


class NotCase(SeenError):
    """Something is no case of the world."""


class UnlikeWorlds(SeenError):
    """Two worlds are not equal."""


class NotTold(SeenError):
    """A watcher does not know what another one sees."""


class Impossible(SeenError):
    """No case has this view."""


class BadCount(SeenError):
    """Something is no integer from 1 on."""

    def __init__(self, count):
        self.count = count


class BadPlace(SeenError):
    """Something is no place of a strand."""

    def __init__(self, place):
        self.place = place


class BadPlaces(SeenError):
    """Something is no list of unlike places of strands."""


class BadName(SeenError):
    """Something is no name, or a name that is taken."""

    def __init__(self, name):
        self.name = name


class NoName(SeenError):
    """Something is none of the names that are there."""

    def __init__(self, name):
        self.name = name


class BadWord(SeenError):
    """Something is none of the words of a wish."""

    def __init__(self, word):
        self.word = word


class NothingToUndo(SeenError):
    """No deed is left that could be taken back."""


class BadText(SeenError):
    """Something is no text of a filter."""


class BadLine(SeenError):
    """The line at this index is not as told."""

    def __init__(self, index):
        self.index = index

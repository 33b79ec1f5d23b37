"""Filters: sums of terms, each of which looks at a place near by."""

from seenrows.errors import BadPrime, BadTerm, UnlikePrimes, ZeroFilter
from seenrows.kinds import first_bad_term, is_int, is_prime
from seenrows.packs import multiplied
from seenrows.remainders import collected, inverse, long_division, remainder


def check_primes(f, g):
    """Raise UnlikePrimes if the filters have unlike primes."""
    if f.prime != g.prime:
        raise UnlikePrimes()


def check_division(f, g):
    """Raise the error that forbids to divide the filter f by the filter g, if there is one."""
    if not g:
        raise ZeroFilter()
    check_primes(f, g)


def scaled(f, number):
    """Return the filter with all coefficients multiplied by an integer."""
    return Filter(f.prime, [(offset, coefficient * number) for offset, coefficient in f.pairs])


def places(f):
    """Return the list of all coefficients of f, a filter with terms, from its least offset to its greatest one."""
    return [f[offset] for offset in range(f.low(), f.high() + 1)]


def is_dense(f, g):
    """Tell whether few of the offsets between the least and the greatest one of the product are left out."""
    return bool(f) and bool(g) and f.span() + g.span() < 4 * len(f.pairs) * len(g.pairs)


def product(f, g):
    """Return the product of two filters of one prime."""
    if is_dense(f, g):
        first = f.low() + g.low()
        digits = multiplied(f.prime, places(f), places(g))
        return Filter(f.prime, [(first + at, digit) for at, digit in enumerate(digits)])
    return Filter(f.prime, [(low + high, one * two) for low, one in f.pairs for high, two in g.pairs])


def divisor_of(g):
    """Return the list of all coefficients of the normal of g, a filter with terms, from the offset 0 on."""
    return places(g.normal())


class Filter:
    """The filter of a prime with these terms, pairs (offset, coefficient)."""

    def __init__(self, prime, terms=()):
        if not is_prime(prime):
            raise BadPrime(prime)
        index = first_bad_term(terms)
        if index is not None:
            raise BadTerm(index)
        self.prime = prime
        self.pairs = tuple(collected(prime, terms))
        self.coefficients = dict(self.pairs)

    @classmethod
    def shift(cls, prime, offset):
        """Return the filter with the one term (offset, 1)."""
        return cls(prime, [(offset, 1)])

    def terms(self):
        """Return the list of the pairs (offset, coefficient) in ascending order."""
        return list(self.pairs)

    def low(self):
        """Return the least offset, None if there are no terms."""
        return self.pairs[0][0] if self.pairs else None

    def high(self):
        """Return the greatest offset, None if there are no terms."""
        return self.pairs[-1][0] if self.pairs else None

    def span(self):
        """Return how far the greatest offset is from the least one, None if there are no terms."""
        return self.pairs[-1][0] - self.pairs[0][0] if self.pairs else None

    def normal(self):
        """Return the one multiple by a unit that begins at 0 and has 1 at its greatest offset."""
        if not self.pairs:
            return Filter(self.prime)
        low = self.pairs[0][0]
        factor = inverse(self.prime, self.pairs[-1][1])
        return Filter(self.prime, [(offset - low, coefficient * factor) for offset, coefficient in self.pairs])

    def __call__(self, x):
        return x.filtered(self)

    def __bool__(self):
        return bool(self.pairs)

    def __eq__(self, other):
        return isinstance(other, Filter) and self.prime == other.prime and self.pairs == other.pairs

    def __getitem__(self, at):
        return self.coefficients.get(at, 0)

    def __iter__(self):
        raise TypeError("a filter is not iterated over: take its terms()")

    def __neg__(self):
        return scaled(self, -1)

    def __add__(self, other):
        if not isinstance(other, Filter):
            return NotImplemented
        check_primes(self, other)
        return Filter(self.prime, self.pairs + other.pairs)

    def __sub__(self, other):
        if not isinstance(other, Filter):
            return NotImplemented
        check_primes(self, other)
        return self + scaled(other, -1)

    def __mul__(self, other):
        if is_int(other):
            return scaled(self, other)
        if not isinstance(other, Filter):
            return NotImplemented
        check_primes(self, other)
        return product(self, other)

    def __rmul__(self, other):
        if not is_int(other):
            return NotImplemented
        return scaled(self, other)

    def __pow__(self, other):
        if not is_int(other) or other < 0:
            return NotImplemented
        power = Filter(self.prime, [(0, 1)])
        stretched = self
        rest = other
        # A sum is raised to the prime by raising each of its terms to it, so few products are needed.
        while rest:
            for step in range(rest % self.prime):
                power = product(power, stretched)
            rest //= self.prime
            stretched = Filter(self.prime, [(self.prime * offset, digit) for offset, digit in stretched.pairs])
        return power

    def __mod__(self, other):
        if not isinstance(other, Filter):
            return NotImplemented
        check_division(self, other)
        # What is its own remainder needs no list of the places in between, which may be many.
        if not self.pairs or (self.low() >= 0 and self.high() < other.span()):
            return Filter(self.prime, self.pairs)
        return Filter(self.prime, remainder(self.prime, self.pairs, divisor_of(other)))

    def __floordiv__(self, other):
        if not isinstance(other, Filter):
            return NotImplemented
        check_division(self, other)
        quotient = long_division(self.prime, self.pairs, divisor_of(other))[0]
        factor = inverse(self.prime, other[other.high()])
        return Filter(self.prime, [(offset - other.low(), digit * factor) for offset, digit in quotient])

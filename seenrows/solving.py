"""Which sequences a filter turns into a given one."""

from seenrows.errors import BadDigits, ZeroFilter
from seenrows.filters import Filter, check_primes
from seenrows.kinds import is_digits
from seenrows.remainders import inverse
from seenrows.sequences import sequence_of, top_of


def solve(f, y, digits=None):
    """Return the sequence that f turns into y and that has these digits from the place 0 on, zeros for None."""
    if not f:
        raise ZeroFilter()
    check_primes(f, y)
    if digits is not None and not is_digits(f.prime, f.span(), digits):
        raise BadDigits()
    normal = f.normal()
    unit = Filter(f.prime, [(-f.low(), inverse(f.prime, f[f.high()]))])
    # The top of y above the product of both rules is the solution that begins with zeros.
    top = (unit % y.least_rule) * y.top % y.least_rule
    if digits is not None:
        top = top + top_of(normal, digits) * y.least_rule
    return sequence_of(normal * y.least_rule, top)

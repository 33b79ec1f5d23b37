"""What filters divide, and what divides them."""

from seenrows.filters import Filter, check_primes, places
from seenrows.packs import NARROW, pack, top_slot, unpack
from seenrows.reduction import reduced


def gcd(f, g):
    """Return the normal filter that divides both and that each filter divides that does so."""
    check_primes(f, g)
    if not f or not g:
        return (f + g).normal()
    longer, shorter = (f, g) if f.span() > g.span() else (g, f)
    # One remainder brings the terms near, however far away they are.
    rest = longer % shorter
    if not rest:
        return shorter.normal()
    common = reduced(f.prime, [pack(places(rest), NARROW), pack(places(shorter), NARROW)], 1)[0]
    return Filter(f.prime, list(enumerate(unpack(common, NARROW, top_slot(common) + 1)))).normal()


def lcm(f, g):
    """Return the normal filter that both divide and that divides each filter that they divide."""
    common = gcd(f, g)
    if not common:
        return common
    return (f * (g // common)).normal()


def divides(g, f):
    """Tell whether f is the product of g and some filter."""
    check_primes(g, f)
    if not g:
        return not f
    return not f % g

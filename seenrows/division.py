"""What filters divide, and what divides them."""

from seenrows.filters import check_primes


def gcd(f, g):
    """Return the normal filter that divides both and that each filter divides that does so."""
    check_primes(f, g)
    divided, divisor = f.normal(), g.normal()
    while divisor:
        divided, divisor = divisor, divided % divisor
    return divided.normal()


def lcm(f, g):
    """Return the normal filter that both divide and that divides each filter that they divide."""
    common = gcd(f, g)
    if not common:
        return common
    return (f * (g // common)).normal()


def divides(g, f):
    """Tell whether f is the product of g and some filter."""
    check_primes(g, f)
    if not g:
        return not f
    return not f % g

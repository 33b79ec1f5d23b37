"""What the tests compare with: the words of the document, worked out in the slowest and plainest way."""

import random

from seenrows.filters import Filter

PRIMES = (2, 3, 5, 7)
FAR = 10 ** 30

NO_PRIMES = (
    True, False, None, 0, 1, 4, 6, 8, 9, 11, 13, 49, -2, -7, 10 ** 30, "", "2", "prime", [], [2], (2,), (), {},
    {2: 2}, [[3]], Filter(2), Filter(7, [(0, 1)]),
)
NO_LISTS = (None, True, False, 0, 1, 5, "", "ab", "terms", {}, {0: 1}, {(0, 1): 2}, Filter(3), Filter(3, [(0, 1)]))
NO_TERMS = (
    None, True, 0, 3, "", "ab", {}, {0: 1, 1: 1}, [], (), [1], (1,), [0, 1, 1], (0, 1, 1), [None, 1], [1, None],
    (True, 1), (1, True), [False, 1], [0, False], ["0", 1], [0, "1"], [[0], 1], [0, (1,)], [0, [1]], [(0, 1)],
    [[0, 1], [0, 1]], Filter(2), Filter(2, [(0, 1), (1, 1)]), [Filter(2), 1], [0, Filter(2)],
)


def added(prime, pairs):
    """The dict of the coefficients of a sum of terms, without those that are 0."""
    sums = {}
    for offset, coefficient in pairs:
        sums[offset] = (sums.get(offset, 0) + coefficient) % prime
    return {offset: digit for offset, digit in sums.items() if digit}


def multiplied(prime, one, two):
    """The dict of the coefficients of the product of two such dicts."""
    return added(prime, [(a + b, c * d) for a, c in one.items() for b, d in two.items()])


def told(f):
    """The dict of the coefficients of a filter."""
    return dict(f.terms())


def some_terms(chance, most=8, reach=24, size=50):
    """Terms to build a filter from: some offsets may come twice, some coefficients be multiples of the prime."""
    pairs = [(chance.randint(-reach, reach), chance.randint(-size, size)) for k in range(chance.randint(0, most))]
    if pairs and chance.random() < 0.3:
        pairs.append((pairs[0][0], chance.randint(-size, size)))
    return pairs


def some_filter(chance, prime, most=8, reach=24):
    return Filter(prime, some_terms(chance, most, reach))


def some_divisor(chance, prime, most=8, reach=24):
    while True:
        f = some_filter(chance, prime, most, reach)
        if f:
            return f


def all_filters(prime, first, last):
    """Every filter whose offsets are from first to last, the one without terms too."""
    found = [[]]
    for offset in range(first, last + 1):
        found = [pairs + [(offset, digit)] for pairs in found for digit in range(prime)]
    return [Filter(prime, pairs) for pairs in found]


def chance_of(seed):
    return random.Random(seed)

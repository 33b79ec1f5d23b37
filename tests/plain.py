"""What the tests compare with: the words of the document, worked out in the slowest and plainest way."""

import random

from seenrows.filters import Filter
from seenrows.sequences import Sequence

PRIMES = (2, 3, 5, 7)
FAR = 10 ** 30

NO_PRIMES = (
    True, False, None, 0, 1, 4, 6, 8, 9, 11, 13, 49, -2, -7, 10 ** 30, "", "2", "prime", [], [2], (2,), (), {},
    {2: 2}, [[3]], Filter(2), Filter(7, [(0, 1)]),
)
NO_LISTS = (None, True, False, 0, 1, 5, "", "ab", "terms", {}, {0: 1}, {(0, 1): 2}, Filter(3), Filter(3, [(0, 1)]))
NO_TERMS = (
    None, True, 0, 3, "", "ab", {}, {0: 1, 1: 1}, [], (), [1], (1,), [0, 1, 1], (0, 1, 1), [None, 1], [1, None],
    (True, 1), (1, True), [False, 1], [0, False], ["0", 1], [0, "1"], [[0], 1], [0, (1,)], [0, [1]], [(0, 1)],
    [[0, 1], [0, 1]], Filter(2), Filter(2, [(0, 1), (1, 1)]), [Filter(2), 1], [0, Filter(2)],
)


def added(prime, pairs):
    """The dict of the coefficients of a sum of terms, without those that are 0."""
    sums = {}
    for offset, coefficient in pairs:
        sums[offset] = (sums.get(offset, 0) + coefficient) % prime
    return {offset: digit for offset, digit in sums.items() if digit}


def multiplied(prime, one, two):
    """The dict of the coefficients of the product of two such dicts."""
    return added(prime, [(a + b, c * d) for a, c in one.items() for b, d in two.items()])


def told(f):
    """The dict of the coefficients of a filter."""
    return dict(f.terms())


def some_terms(chance, most=8, reach=24, size=50):
    """Terms to build a filter from: some offsets may come twice, some coefficients be multiples of the prime."""
    pairs = [(chance.randint(-reach, reach), chance.randint(-size, size)) for k in range(chance.randint(0, most))]
    if pairs and chance.random() < 0.3:
        pairs.append((pairs[0][0], chance.randint(-size, size)))
    return pairs


def some_filter(chance, prime, most=8, reach=24):
    return Filter(prime, some_terms(chance, most, reach))


def some_divisor(chance, prime, most=8, reach=24):
    while True:
        f = some_filter(chance, prime, most, reach)
        if f:
            return f


def all_filters(prime, first, last):
    """Every filter whose offsets are from first to last, the one without terms too."""
    found = [[]]
    for offset in range(first, last + 1):
        found = [pairs + [(offset, digit)] for pairs in found for digit in range(prime)]
    return [Filter(prime, pairs) for pairs in found]


def chance_of(seed):
    return random.Random(seed)


# ---- sequences ----

NO_RULES = (
    None, True, False, 0, 1, 2, "", "1@0", [], (), [(0, 1)], ((0, 1),), {}, {0: 1}, Filter(2), Filter(3), Filter(7),
    [Filter(2, [(0, 1)])],
)


def stepped(rule, digits, first, last):
    """The digits at the places first to last - 1 of the sequence with this rule, found by stepping from 0 both ways."""
    n = rule.normal()
    span = n.span()
    known = dict(enumerate(digits))
    terms = n.terms()
    lowest = pow(n[0], -1, rule.prime)
    for place in range(span, max(last, span)):
        known[place] = -sum(c * known[place - span + o] for o, c in terms if o < span) % rule.prime
    for place in range(-1, first - 1, -1):
        known[place] = -lowest * sum(c * known[place + o] for o, c in terms if o > 0) % rule.prime
    return [known[place] for place in range(first, last)]


def some_rule(chance, prime, span=8):
    """A filter with terms and a span of at most so much, moved to and fro."""
    low, count = chance.randint(-24, 24 - span), chance.randint(1, 6)
    f = Filter(prime, [(low + chance.randint(0, span), chance.randint(1, prime - 1)) for k in range(count)])
    return f if f else Filter(prime, [(low, 1)])


def some_sequence(chance, prime, span=8):
    rule = some_rule(chance, prime, span)
    return Sequence(rule, some_digits(chance, prime, rule.span()))


def some_digits(chance, prime, count):
    return [chance.randint(0, prime - 1) for k in range(count)]


def slow_filtered(f, digit, place):
    """The digit at a place of what f gives, if digit tells the digits of the sequence."""
    return sum(c * digit(place + o) for o, c in f.terms()) % f.prime


# ---- rows ----

def slow_sum(prime, width, factors, rows):
    """The sum of rows, each multiplied by a filter, as a list of dicts of coefficients."""
    columns = [[] for column in range(width)]
    for factor, row in zip(factors, rows):
        for column, f in enumerate(row):
            columns[column] += [(a + b, c * d) for a, c in factor.terms() for b, d in f.terms()]
    return [added(prime, pairs) for pairs in columns]


def told_row(row):
    return [told(f) for f in row]


def some_row(chance, prime, width, most=3, reach=2):
    return [some_filter(chance, prime, most, reach) for column in range(width)]


def some_rows(chance, prime, width, count, most=3, reach=2):
    return [some_row(chance, prime, width, most, reach) for k in range(count)]


def flat(row, offset=0):
    """The dict of the digits of a row by column and offset, moved by so much."""
    return {(column, o + offset): c for column, f in enumerate(row) for o, c in f.terms()}


class Elimination:
    """Plain elimination of dicts of digits modulo a prime; each keeps the dict of what it is a sum of."""

    def __init__(self, prime):
        self.prime = prime
        self.heads = {}
        self.found = []

    def reduce(self, vector, source):
        vector, source = dict(vector), dict(source)
        while True:
            held = [key for key in vector if key in self.heads]
            if not held:
                return vector, source
            key = max(held)
            other, its = self.heads[key]
            share = vector[key] * pow(other[key], -1, self.prime)
            for mine, one in ((vector, other), (source, its)):
                for k, digit in one.items():
                    mine[k] = (mine.get(k, 0) - share * digit) % self.prime
                    if not mine[k]:
                        del mine[k]

    def add(self, vector, name):
        vector, source = self.reduce(vector, {name: 1})
        if vector:
            self.heads[max(vector)] = vector, source
        else:
            self.found.append(source)


def slow_elimination(prime, rows, reach):
    """The elimination of all rows, each moved by offsets from -reach to reach."""
    plain = Elimination(prime)
    for offset in range(-reach, reach + 1):
        for index, row in enumerate(rows):
            plain.add(flat(row, offset), (index, offset))
    return plain


def slow_has(prime, rows, row, reach=12):
    """Tell whether the row is a sum of the rows, each multiplied by a filter with offsets from -reach to reach."""
    return not slow_elimination(prime, rows, reach).reduce(flat(row), {})[0]


def slow_checks(prime, rows, reach=8):
    """Lists of filters with offsets from -reach to reach with which the rows add up to nothing."""
    return [
        [Filter(prime, [(o, c) for (k, o), c in source.items() if k == index]) for index in range(len(rows))]
        for source in slow_elimination(prime, rows, reach).found
    ]


def is_least(prime, rows):
    """Tell whether rows are least, as point 17 has it."""
    last = -1
    for at, row in enumerate(rows):
        columns = [column for column, f in enumerate(row) if f]
        if not columns or columns[0] <= last:
            return False
        last = columns[0]
        head = row[last]
        if head != head.normal() or any(above[last] != above[last] % head for above in rows[:at]):
            return False
    return True

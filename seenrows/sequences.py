"""Sequences: a digit at each integer place, ruled by a filter.

A sequence is kept as a fraction TOP / RULE in lowest terms: its digits from the place 0 on are the coefficients of the
fraction at the offsets -1, -2 and so on. A filter multiplies the top, of which only the remainder by the rule counts.
"""

from seenrows.division import gcd, lcm
from seenrows.errors import BadDigits, BadPrime, BadRule
from seenrows.filters import Filter, check_primes, places
from seenrows.kinds import is_digits, is_int, is_list, is_prime
from seenrows.packs import NARROW, SLOT, narrow_mask, pack, without


def top_of(rule, digits):
    """Return the top of the fraction whose first digits these are; the rule equals its normal."""
    span = rule.span()
    known = Filter(rule.prime, [(span - 1 - place, digit) for place, digit in enumerate(digits)])
    above = [(offset - span, digit) for offset, digit in (rule * known).terms() if offset >= span]
    return Filter(rule.prime, above)


def expanded(rule, top, count):
    """Return the first digits, so many, of a fraction whose rule equals its normal."""
    if not top:
        return [0 for place in range(count)]
    span = rule.span()
    whole, mask = pack(places(rule), NARROW), narrow_mask(span + 1)
    state = pack([top[offset] for offset in range(span)], NARROW)
    digits = []
    for place in range(count):
        digit = state >> (SLOT * (span - 1))
        state = without(rule.prime, state << SLOT, digit, whole, mask)
        digits.append(digit)
    return digits


def sequence_of(rule, top):
    """Return the sequence of a fraction whose rule equals its normal."""
    return Sequence(rule, expanded(rule, top, rule.span()))


def is_sequences(prime, count, thing):
    """Tell whether the thing is a list of just so many sequences of the prime."""
    if not is_list(thing) or len(thing) != count:
        return False
    return all([isinstance(one, Sequence) and one.prime == prime for one in thing])


def scaled_sequence(x, number):
    """Return the sequence with every digit multiplied by an integer."""
    return sequence_of(x.least_rule, x.top * number)


class Sequence:
    """The sequence that the rule rules and that has these digits from the place 0 on."""

    def __init__(self, rule, digits):
        if not isinstance(rule, Filter) or not rule:
            raise BadRule()
        if not is_digits(rule.prime, rule.span(), digits):
            raise BadDigits()
        normal = rule.normal()
        top = top_of(normal, digits)
        common = gcd(normal, top)
        self.prime = rule.prime
        self.least_rule = normal // common
        self.top = top // common

    @classmethod
    def zero(cls, prime):
        """Return the sequence that has only zeros."""
        return cls(Filter(prime, [(0, 1)]), ())

    @classmethod
    def repeated(cls, prime, word):
        """Return the sequence that repeats a list of digits for ever, the first one at the place 0."""
        if not is_prime(prime):
            raise BadPrime(prime)
        if not is_list(word) or not len(word) or not is_digits(prime, len(word), word):
            raise BadDigits()
        return cls(Filter(prime, [(0, -1), (len(word), 1)]), word)

    def rule(self):
        """Return the least rule, which divides every filter that rules the sequence."""
        return self.least_rule

    def digits(self, start, count):
        """Return the list of so many digits from the place start on."""
        near = Filter.shift(self.prime, start) % self.least_rule
        return expanded(self.least_rule, near * self.top % self.least_rule, count)

    def moved(self, k):
        """Return the sequence that has at each place the digit which this one has k places later."""
        return self.filtered(Filter.shift(self.prime, k))

    def filtered(self, f):
        """Return what a filter gives when it is applied to the sequence."""
        return sequence_of(self.least_rule, (f % self.least_rule) * self.top % self.least_rule)

    def __bool__(self):
        return bool(self.top)

    def __eq__(self, other):
        return isinstance(other, Sequence) and self.least_rule == other.least_rule and self.top == other.top

    def __getitem__(self, at):
        return self.digits(at, 1)[0]

    def __iter__(self):
        raise TypeError("a sequence has no beginning: take its digits(start, count)")

    def __neg__(self):
        return scaled_sequence(self, -1)

    def __add__(self, other):
        if not isinstance(other, Sequence):
            return NotImplemented
        check_primes(self, other)
        rule = lcm(self.least_rule, other.least_rule)
        mine, its = rule // self.least_rule, rule // other.least_rule
        return sequence_of(rule, mine * self.top + its * other.top)

    def __sub__(self, other):
        if not isinstance(other, Sequence):
            return NotImplemented
        check_primes(self, other)
        return self + scaled_sequence(other, -1)

    def __mul__(self, other):
        if not is_int(other):
            return NotImplemented
        return scaled_sequence(self, other)

    def __rmul__(self, other):
        if not is_int(other):
            return NotImplemented
        return scaled_sequence(self, other)

"""Division of sums of terms, told as lists of pairs (offset, coefficient) in ascending order.

A DIVISOR is the list of all coefficients of a filter that equals its normal, from the offset 0 on:
the last one is 1 and the first one is not 0.
"""

from seenrows.packs import BLOCK, NARROW, SLOT, WIDE, WIDE_BITS, lowered, narrow_mask, pack, slot_mask, unpack, without

# A term further away than this is brought near by powers, not place by place.
NEAR = 1000


def inverse(prime, digit):
    """Return the digit whose product with this one, which is not 0, is 1."""
    # By Fermat's theorem, as 11 + 1 is a multiple of p - 1 for each of the four primes p.
    return digit ** 11 % prime


def collected(prime, pairs):
    """Return pairs of unlike offsets in ascending order that have the same sum as the passed ones."""
    sums = {}
    for offset, coefficient in pairs:
        sums[offset] = (sums.get(offset, 0) + coefficient) % prime
    offsets = sorted([int(offset) for offset in sums])
    return [(offset, sums[offset]) for offset in offsets if sums[offset]]


def long_division(prime, pairs, divisor):
    """Return the pairs of the quotient, and the list of the digits of the remainder from the offset 0 on."""
    span = len(divisor) - 1
    if not pairs:
        return [], [0 for place in range(span)]
    known = dict(pairs)
    last = int(pairs[-1][0])
    above, rest = divided_from_above(prime, [known.get(place, 0) for place in range(last, -1, -1)], divisor)
    first = int(pairs[0][0])
    # What is wiped out from below up to 0 does not come near the span again, so neither way undoes the other.
    below, digits = divided_from_below(prime, [known.get(place, 0) for place in range(first, 0)], rest, divisor)
    return above + below, digits


def divided_from_above(prime, descending, divisor):
    """Return the pairs of the quotient and the digits of the remainder; the digits that are passed end at 0."""
    span = len(divisor) - 1
    whole, mask = pack(divisor, NARROW), narrow_mask(span + 1)
    quotient = []
    window = 0
    at = len(descending)
    for digit in descending:
        at -= 1
        window = (window << SLOT) + digit
        share = window >> (SLOT * span)
        if share:
            window = without(prime, window, share, whole, mask)
            quotient.append((at, share))
    return quotient, unpack(window, NARROW, span)


def divided_from_below(prime, ascending, rest, divisor):
    """Return the pairs of the quotient and the digits of the remainder; the digits that are passed end below 0."""
    span = len(divisor) - 1
    whole, mask = pack(divisor, NARROW), narrow_mask(span + 1)
    lowest = inverse(prime, divisor[0])
    quotient = []
    at = -len(ascending)
    digits = ascending + rest
    window = pack(digits[:span], NARROW)
    for digit in digits[span:]:
        window = window + (digit << (SLOT * span))
        share = (window & ((1 << SLOT) - 1)) * lowest % prime
        if share:
            window = without(prime, window, share, whole, mask)
            quotient.append((at, share))
        window = window >> SLOT
        at += 1
    return quotient, unpack(window, NARROW, span)


def remainder(prime, pairs, divisor):
    """Return the pairs of the remainder, whose offsets are from 0 to one less than the divisor's span."""
    if len(divisor) == 1:
        return []
    digits = long_division(prime, near_pairs(prime, pairs, divisor), divisor)[1]
    return list(enumerate(digits))


def near_pairs(prime, pairs, divisor):
    """Return pairs, none of them far away, that have the same remainder as the passed ones."""
    # Going through all places in between serves many terms at once, so it pays the further the more there are.
    reach = NEAR * len(pairs) + 4 * len(divisor)
    far = [pair for pair in pairs if abs(pair[0]) > reach]
    if not far:
        return pairs
    powers = packed_powers(prime, divisor)
    digits = [0 for place in range(len(divisor) - 1)]
    for offset, coefficient in far:
        power = power_digits(prime, divisor, powers, offset)
        digits = [(old + coefficient * digit) % prime for old, digit in zip(digits, power)]
    near = [pair for pair in pairs if abs(pair[0]) <= reach]
    return collected(prime, near + list(enumerate(digits)))


def power_digits(prime, divisor, powers, offset):
    """Return the digits of the remainder of the one term (offset, 1)."""
    stride = stride_of(prime)
    steps = []
    whole = offset
    while not -1 <= whole < len(divisor) - 1:
        steps.append(whole % stride)
        whole //= stride
    digits = long_division(prime, [(whole, 1)], divisor)[1]
    # The stride is a power of the prime, so a sum is raised to it by raising each of its terms to it.
    for step in reversed(list(steps)):
        digits = packed_sum(prime, digits, powers[step::stride])
    return digits


def stride_of(prime):
    """Return the power of the prime by which far offsets are brought near: fewer steps, but more powers to keep."""
    stride = prime
    while stride * prime < 10:
        stride = stride * prime
    return stride


def packed_powers(prime, divisor):
    """Return the wide packs of the remainders of the terms (k, 1), for all k that a step can need."""
    span = len(divisor) - 1
    size = 4 * WIDE
    whole, mask = pack(divisor, WIDE), slot_mask(WIDE, WIDE_BITS, span + 1)
    power = 1
    powers = []
    for k in range(stride_of(prime) * span):
        powers.append(power)
        power = power << size
        share = power >> (size * span)
        if share:
            power = lowered(prime, power + (prime - share) * whole, WIDE_BITS, mask)
    return powers


def packed_sum(prime, digits, packs):
    """Return the digits of the sum of wide packs, as many as there are digits, each multiplied by its digit."""
    mask = slot_mask(WIDE, WIDE_BITS, len(digits))
    total = 0
    for at in range(0, len(digits), BLOCK):
        part = sum([digit * one for digit, one in zip(digits[at:at + BLOCK], packs[at:at + BLOCK])])
        total = lowered(prime, total + part, WIDE_BITS, mask)
    return unpack(total, WIDE, len(digits))

"""Division of sums of terms, told as lists of pairs (offset, coefficient) in ascending order.

A DIVISOR is the list of all coefficients of a filter that equals its normal, from the offset 0 on:
the last one is 1 and the first one is not 0.
"""

# Terms further away than this are brought near by powers, not place by place.
NEAR = 1000


def inverse(prime, digit):
    """Return the digit whose product with this one, which is not 0, is 1."""
    # By Fermat's theorem, as 11 + 1 is a multiple of p - 1 for each of the four primes p.
    return digit ** 11 % prime


def collected(prime, pairs):
    """Return pairs of unlike offsets in ascending order that have the same sum as the passed ones."""
    sums = {}
    for offset, coefficient in pairs:
        sums[offset] = (sums.get(offset, 0) + coefficient) % prime
    offsets = sorted([int(offset) for offset in sums])
    return [(offset, sums[offset]) for offset in offsets if sums[offset]]


def long_division(prime, pairs, divisor):
    """Return the pairs of the quotient, and the list of the digits of the remainder from the offset 0 on."""
    span = len(divisor) - 1
    if not pairs:
        return [], [0 for place in range(span)]
    known = dict(pairs)
    first = min(0, pairs[0][0])
    last = max(int(pairs[-1][0]), span - 1)
    lowest = inverse(prime, divisor[0])
    rest = [known.get(place, 0) for place in range(first, last + 1)]
    quotient = []
    # From above down to the span, then from below up to 0: neither way touches what the other has wiped out.
    for at in list(reversed(range(last - span + 1))) + list(range(first, 0)):
        begin = at - first
        share = rest[begin + span] if at >= 0 else rest[begin] * lowest % prime
        if share:
            window = rest[begin:begin + span + 1]
            rest[begin:begin + span + 1] = [(old - share * digit) % prime for old, digit in zip(window, divisor)]
            quotient.append((at, share))
    return quotient, rest[-first:span - first]


def remainder(prime, pairs, divisor):
    """Return the pairs of the remainder, whose offsets are from 0 to one less than the divisor's span."""
    if len(divisor) == 1:
        return []
    digits = long_division(prime, near_pairs(prime, pairs, divisor), divisor)[1]
    return list(enumerate(digits))


def near_pairs(prime, pairs, divisor):
    """Return pairs, none of them far away, that have the same remainder as the passed ones."""
    far = [pair for pair in pairs if abs(pair[0]) > NEAR]
    if not far:
        return pairs
    packed = packed_powers(prime, divisor)
    digits = [0 for place in range(len(divisor) - 1)]
    for offset, coefficient in far:
        power = power_digits(prime, divisor, packed, offset)
        digits = [(old + coefficient * digit) % prime for old, digit in zip(digits, power)]
    near = [pair for pair in pairs if abs(pair[0]) <= NEAR]
    return collected(prime, near + list(enumerate(digits)))


def power_digits(prime, divisor, packed, offset):
    """Return the digits of the remainder of the one term (offset, 1)."""
    stride = stride_of(prime)
    steps = []
    whole = offset
    while not -1 <= whole < len(divisor) - 1:
        steps.append(whole % stride)
        whole //= stride
    digits = long_division(prime, [(whole, 1)], divisor)[1]
    # The stride is a power of the prime, so a sum is raised to it by raising each of its terms to it.
    for step in reversed(list(steps)):
        total = sum([digit * packed[stride * k + step] for k, digit in enumerate(digits)])
        digits = unpacked(prime, divisor, total)
    return digits


def stride_of(prime):
    """Return the power of the prime by which far offsets are brought near: fewer steps, but more powers to keep."""
    stride = prime
    while stride * prime < 10:
        stride = stride * prime
    return stride


def packed_powers(prime, divisor):
    """Return the remainders of the terms (k, 1), each packed into one integer, for all k that a step can need."""
    span = len(divisor) - 1
    bits = slot_bits(prime, divisor)
    digits = [1] + [0 for place in range(span - 1)]
    packed = []
    for k in range(stride_of(prime) * span):
        packed.append(sum([digit << (bits * place) for place, digit in enumerate(digits)]))
        highest = digits[-1]
        digits = [(old - highest * taken) % prime for old, taken in zip([0] + digits, divisor[:-1])]
    return packed


def unpacked(prime, divisor, total):
    """Return the digits of a sum of packed remainders."""
    bits = slot_bits(prime, divisor)
    mask = (1 << bits) - 1
    return [((total >> (bits * place)) & mask) % prime for place in range(len(divisor) - 1)]


def slot_bits(prime, divisor):
    """Return how many bits a slot needs for a sum of as many products of two digits as the divisor has places."""
    return (len(divisor) * (prime - 1) ** 2).bit_length()

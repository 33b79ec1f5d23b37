"""Lists of digits packed into one integer, so that one operation on integers serves all of them at once.

A PACK holds each digit in a slot of as many hexadecimal signs as told, the first digit in the lowest slot. A narrow
slot, of SLOT bits, has room for the sum of a digit and a product of two digits, a wide one for the sum of BLOCK such
products and a digit more.
"""

NARROW = 3
NARROW_BITS = 8
WIDE = 8
WIDE_BITS = 19
BLOCK = 1024
SLOT = 12


def pack(digits, signs):
    """Return the pack of the digits."""
    filler = "0" * (signs - 1)
    return int("0" + filler.join([str(digit) for digit in digits[::-1]]), 16)


def unpack(total, signs, count):
    """Return the first so many digits of a pack in which each slot holds a digit."""
    text = f"{total:x}"
    digits = [int(sign) for sign in text[::-1][::signs][:count]]
    return digits + [0 for slot in range(count - len(digits))]


def slot_mask(signs, bits, count):
    """Return the mask by which `lowered` finds what belongs to each of so many slots."""
    size = 4 * signs
    ones = ((1 << (size * count)) - 1) // ((1 << size) - 1)
    return ones * ((1 << (size - bits)) - 1)


def lowered(prime, total, bits, mask):
    """Return the pack of the remainders modulo the prime of what the slots hold."""
    # (1 << bits) // prime + 1 is so close to a fraction of the prime that the quotients come out exactly.
    quotients = ((total * ((1 << bits) // prime + 1)) >> bits) & mask
    return total - quotients * prime


def narrow_mask(count):
    """Return the mask of so many narrow slots."""
    return slot_mask(NARROW, NARROW_BITS, count)


def without(prime, total, share, other, mask):
    """Return a narrow pack minus another one times a digit."""
    return lowered(prime, total + (prime - share) * other, NARROW_BITS, mask)


def top_slot(total):
    """Return the number of the highest narrow slot of a pack that holds no 0; the pack holds some."""
    return (total.bit_length() - 1) // SLOT


def multiplied(prime, one, two):
    """Return the digits of the product of two sums of terms, told as lists of digits, none of them empty."""
    count = len(one) + len(two) - 1
    mask = slot_mask(WIDE, WIDE_BITS, count)
    longer, shorter = (one, two) if len(one) >= len(two) else (two, one)
    whole = pack(longer, WIDE)
    total = 0
    for at in range(0, len(shorter), BLOCK):
        part = lowered(prime, whole * pack(shorter[at:at + BLOCK], WIDE), WIDE_BITS, mask)
        total = total + (part << (4 * WIDE * at))
    return unpack(lowered(prime, total, WIDE_BITS, mask), WIDE, count)

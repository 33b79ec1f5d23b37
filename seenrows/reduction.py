"""Vectors, each a list of sums of terms with offsets from 0 on, and what their combinations begin with.

A vector is packed with its columns side by side: first what all columns have at one offset, then what they have at
the next one. So the highest digit of a pack tells both its greatest offset and its LEADING column.
"""

from seenrows.packs import NARROW, SLOT, narrow_mask, pack, top_slot, unpack, without
from seenrows.remainders import inverse


def reduced(prime, packs, columns):
    """Return for each column a pack that leads there, 0 if none does: together they combine to what the packs do."""
    mask = narrow_mask(max([int(top_slot(one)) + 1 for one in packs]))
    leads = [0 for column in range(columns)]
    for one in packs:
        rest = one
        while rest:
            slot = top_slot(rest)
            held = leads[slot % columns]
            if not held or top_slot(held) > slot:
                leads[slot % columns] = rest
                rest, held = held, rest
            if rest:
                rest = without_lead(prime, rest, held, mask)
    return leads


def without_lead(prime, longer, shorter, mask):
    """Return what is left of a pack when a multiple of another one has wiped out its highest digit."""
    slot, other = top_slot(longer), top_slot(shorter)
    share = (longer >> (SLOT * slot)) * inverse(prime, shorter >> (SLOT * other)) % prime
    return without(prime, longer, share, shorter << (SLOT * (slot - other)), mask)


def trimmed(digits):
    """Return the digits without the zeros at the end."""
    count = len(digits)
    while count and not digits[count - 1]:
        count -= 1
    return digits[:count]


def packed_vector(vector, weight):
    """Return the pack of a vector whose first column stands higher than the others by the weight."""
    total = 0
    for column, digits in enumerate(vector):
        raised = column if column else len(vector) * weight
        total = total + (pack(digits, NARROW * len(vector)) << (SLOT * raised))
    return total


def unpacked_vector(total, columns, weight):
    """Return the vector that has such a pack."""
    digits = unpack(total, NARROW, top_slot(total) + 1) if total else []
    vector = [trimmed(digits[column::columns]) for column in range(columns)]
    return [vector[0][weight:]] + vector[1:]


def greatest_sum(vectors):
    """Return a bound for the greatest offset in a sum of products that take one entry of each row or column."""
    heights = [int(max([len(digits) for digits in vector])) for vector in vectors]
    widths = [int(max([len(vector[column]) for vector in vectors])) for column in range(len(vectors[0]))]
    return min(int(sum(heights)), int(sum(widths)))


def split(prime, vectors):
    """Return the one vector with a first column, and the others without it; together they combine to the same.

    Some of the vectors has a first column that is not empty. Each combination without a first column is one of the
    others. Where there is something to combine, the others have as small offsets as they can.
    """
    begun = [vector for vector in vectors if vector[0]]
    if len(begun) == 1:
        return begun[0], [vector[1:] for vector in vectors if not vector[0]]
    columns = len(vectors[0])
    # The weight exceeds what any column but the first can reach in the end, so only one vector keeps a first column.
    weight = greatest_sum(vectors) + 1
    leads = reduced(prime, [packed_vector(vector, weight) for vector in vectors], columns)
    others = [unpacked_vector(lead, columns, weight)[1:] for lead in leads[1:] if lead]
    return unpacked_vector(leads[0], columns, weight), others

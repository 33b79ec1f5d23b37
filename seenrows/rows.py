"""Rows: lists of filters of one prime, as tuples."""

from seenrows.filters import Filter
from seenrows.kinds import is_list


def is_row(prime, width, thing):
    """Tell whether the thing is a list of width filters of the prime."""
    if not is_list(thing) or len(thing) != width:
        return False
    return all([isinstance(f, Filter) and f.prime == prime for f in thing])


def first_bad_row(prime, width, rows):
    """Return the index of the first thing in rows that is no row, None if there is none."""
    if not is_list(rows):
        return 0
    for index, thing in enumerate(rows):
        if not is_row(prime, width, thing):
            return index
    return None


def empty_row(prime, width):
    """Return the row of filters without terms."""
    return tuple([Filter(prime) for column in range(width)])


def unit_row(prime, width, place):
    """Return the row that has the one term (0, 1) in one column and no terms elsewhere."""
    return tuple([Filter(prime, [(0, 1)] if column == place else []) for column in range(width)])


def row_times(factor, row):
    """Return the row with each filter multiplied by a factor."""
    return tuple([factor * f for f in row])


def row_minus(row, factor, other):
    """Return the row minus another one multiplied by a factor."""
    return tuple([f - factor * g if g else f for f, g in zip(row, other)])


def row_sum(prime, width, factors, rows):
    """Return the sum of the rows, each multiplied by its factor."""
    total = empty_row(prime, width)
    for factor, row in zip(factors, rows):
        if factor:
            total = row_minus(total, -factor, row)
    return total

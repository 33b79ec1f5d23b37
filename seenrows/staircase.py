"""Rows brought into the form of a staircase, with the same combinations.

A STEP is a pair (column, row): the row begins in this column, with its head. The steps of a staircase stand in
ascending columns. SETTLED ones make a least table.
"""

from seenrows.filters import Filter
from seenrows.reduction import split
from seenrows.remainders import inverse
from seenrows.rows import empty_row, row_minus, row_times


def vector_of(row):
    """Return the vector of a row with terms, which is moved so that its least offset is 0."""
    low = min([int(f.low()) for f in row if f])
    return [[f[offset] for offset in range(low, f.high() + 1)] if f else [] for f in row]


def row_of(prime, vector):
    """Return the row of a vector."""
    return tuple([Filter(prime, list(enumerate(digits))) for digits in vector])


def staircase(prime, rows, width):
    """Return the steps of the first columns, so many as width tells, and what combines to zeros there.

    The latter is a list of rows without these columns. Steps and rows together have the same combinations as the rows.
    """
    vectors = [vector_of(row) for row in rows if any([bool(f) for f in row])]
    steps = []
    for column in range(width):
        if not vectors:
            return steps, []
        if any([bool(vector[0]) for vector in vectors]):
            first, vectors = split(prime, vectors)
            steps.append((column, empty_row(prime, column) + row_of(prime, first)))
        else:
            vectors = [vector[1:] for vector in vectors]
    return steps, [row_of(prime, vector) for vector in vectors]


def settled(prime, steps):
    """Return the steps with normal heads, and with what stands above a head reduced to its remainder."""
    done = []
    for column, row in reversed(list(steps)):
        head = row[column]
        unit = Filter(prime, [(-head.low(), inverse(prime, head[head.high()]))])
        done = [(column, cut_down(row_times(unit, row), done))] + done
    return done


def cut_down(row, steps):
    """Return the row minus the multiples of the steps that leave remainders by their heads in their columns."""
    left = row
    for column, step in steps:
        quotient = left[column] // step[column]
        if quotient:
            left = row_minus(left, quotient, step)
    return left

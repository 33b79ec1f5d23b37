"""Which sequences a table turns into given ones."""

from seenrows.sequences import Sequence
from seenrows.solving import solve
from seenrows.staircase import staircase
from seenrows.tables import applied, lines_with_tails


def ladder(t):
    """Return the steps of a table and its checks; each step goes on with the factors that make it of the rows."""
    return staircase(t.prime, lines_with_tails(t), t.width)


def first_broken(prime, checks, values):
    """Return the first check that does not turn the values into zeros, None if there is none."""
    for check in checks:
        if applied(prime, check, values):
            return check
    return None


def broken_check(t, values):
    """Return a check of the table that does not turn the values into zeros, None if there is none."""
    return first_broken(t.prime, ladder(t)[1], values)


def fitted(t, values):
    """Return sequences to which the table gives these values, one for each row, None if there are none."""
    steps, checks = ladder(t)
    if first_broken(t.prime, checks, values) is not None:
        return None
    wanted = [applied(t.prime, row[t.width:], values) for column, row in steps]
    return filled(t.prime, t.width, steps, wanted, [None for step in steps])


def filled(prime, width, steps, wanted, digits):
    """Return sequences, so many as width tells, to which the steps give what is wanted, each step one sequence.

    The sequence in the column of a step begins with the digits for this step; None stands for zeros. The others are
    zeros.
    """
    found = [Sequence.zero(prime) for column in range(width)]
    # From below, as a step tells the sequence of its own column by those to the right of it.
    for at in range(len(steps) - 1, -1, -1):
        column, row = steps[at]
        found[column] = solve(row[column], wanted[at] - applied(prime, row[:width], found), digits[at])
    return found

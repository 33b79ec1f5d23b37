"""Tables: rows of filters, and what can be combined from them."""

from seenrows.errors import BadPrime, BadRow, BadSequences, BadWidth, NoRows, UnlikeTables
from seenrows.kinds import is_count, is_prime
from seenrows.rows import empty_row, first_bad_row, is_row, row_sum, unit_row
from seenrows.sequences import Sequence, is_sequences
from seenrows.staircase import cut_down, settled, staircase


def check_tables(t, u):
    """Raise UnlikeTables if the rows of one table cannot stand below those of the other one."""
    if t.prime != u.prime or t.width != u.width:
        raise UnlikeTables()


def check_row(t, row):
    """Raise BadRow(0) if something is no row of the table's width and prime."""
    if not is_row(t.prime, t.width, row):
        raise BadRow(0)


def has_terms(row):
    """Tell whether some filter of the row has terms."""
    return any([bool(f) for f in row])


def least_steps(t):
    """Return the steps of the least table of a table."""
    return settled(t.prime, staircase(t.prime, t.lines, t.width)[0])


def lines_with_tails(t):
    """Return the rows of a table, each followed by the list of factors that makes it of the rows."""
    return [line + unit_row(t.prime, len(t), place) for place, line in enumerate(t.lines)]


def all_factors(t, rows):
    """Return for each row the factors with which it is a combination of the table's rows, None if one is none."""
    steps = settled(t.prime, staircase(t.prime, lines_with_tails(t), t.width)[0])
    found = []
    for row in rows:
        left = cut_down(tuple(row) + empty_row(t.prime, len(t)), steps)
        if has_terms(left[:t.width]):
            return None
        found.append([-f for f in left[t.width:]])
    return found


def applied(prime, row, sequences):
    """Return the sum of the filters of a row applied to the sequences in order."""
    total = Sequence.zero(prime)
    for f, x in zip(row, sequences):
        if f and x:
            total = total + x.filtered(f)
    return total


class Table:
    """The table of a prime and a width with these rows, lists of filters."""

    def __init__(self, prime, width, rows=()):
        if not is_prime(prime):
            raise BadPrime(prime)
        if not is_count(width):
            raise BadWidth(width)
        index = first_bad_row(prime, width, rows)
        if index is not None:
            raise BadRow(index)
        self.prime = prime
        self.width = width
        self.lines = tuple([tuple(row) for row in rows])

    def rows(self):
        """Return the list of the rows, as lists."""
        return [list(line) for line in self.lines]

    def factors(self, row):
        """Return filters, one for each row of the table, with which the row is a combination, or None."""
        check_row(self, row)
        found = all_factors(self, [row])
        return None if found is None else found[0]

    def least(self):
        """Return the least table with the same combinations."""
        return Table(self.prime, self.width, [line for column, line in least_steps(self)])

    def rank(self):
        """Return the number of rows of the least table."""
        return len(staircase(self.prime, self.lines, self.width)[0])

    def rest(self, row):
        """Return what the row leaves when a combination of the rows is taken away: a remainder at each head."""
        check_row(self, row)
        return list(cut_down(tuple(row), least_steps(self)))

    def checks(self):
        """Return the least table of the lists of factors with which the rows add up to nothing."""
        if not self.lines:
            raise NoRows()
        found = staircase(self.prime, lines_with_tails(self), self.width)[1]
        return Table(self.prime, len(self), found).least()

    def __call__(self, sequences):
        if not is_sequences(self.prime, self.width, sequences):
            raise BadSequences()
        return [applied(self.prime, line, sequences) for line in self.lines]

    def __len__(self):
        return len(self.lines)

    def __iter__(self):
        return iter(self.lines)

    def __contains__(self, x):
        return is_row(self.prime, self.width, x) and not has_terms(self.rest(x))

    def __eq__(self, other):
        if not isinstance(other, Table):
            return False
        return self.prime == other.prime and self.width == other.width and self.lines == other.lines

    def __le__(self, other):
        if not isinstance(other, Table):
            return NotImplemented
        check_tables(self, other)
        steps = least_steps(other)
        return not any([has_terms(cut_down(line, steps)) for line in self.lines])

    def __add__(self, other):
        if not isinstance(other, Table):
            return NotImplemented
        check_tables(self, other)
        return Table(self.prime, self.width, self.lines + other.lines)

    def __mul__(self, other):
        if not isinstance(other, Table):
            return NotImplemented
        if self.prime != other.prime or self.width != len(other):
            raise UnlikeTables()
        rows = [row_sum(self.prime, other.width, line, other.lines) for line in self.lines]
        return Table(self.prime, other.width, rows)

    def __and__(self, other):
        if not isinstance(other, Table):
            raise TypeError("a table has common combinations with a table only")
        check_tables(self, other)
        # Where the left halves add up to nothing, what t adds is what u takes away, and the right half is just that.
        doubled = [line + line for line in self.lines]
        doubled = doubled + [line + empty_row(self.prime, self.width) for line in other.lines]
        return Table(self.prime, self.width, staircase(self.prime, doubled, self.width)[1]).least()

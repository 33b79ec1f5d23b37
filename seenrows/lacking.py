"""What a watcher lacks of what another one sees."""

from seenrows.errors import BadDigits, BadSequences, Impossible
from seenrows.fitting import filled, fitted
from seenrows.kinds import is_digits
from seenrows.rows import row_sum, unit_row
from seenrows.sequences import Sequence, is_sequences
from seenrows.tables import Table, all_factors, applied
from seenrows.views import broken, check_view
from seenrows.worlds import check_worlds, known_by


def crossed(prime, width, rows):
    """Return the table of the columns of rows, which have this width, as rows."""
    return Table(prime, len(rows), [[row[column] for row in rows] for column in range(width)])


def parted(t):
    """Return two lists of rows of which together each row of the table's width is a combination in just one way.

    The first list combines to the rows of which some multiple, by a filter with terms, is a combination of the table's
    rows. The table has rows, and each combination of them is one in just one way.
    """
    units = [unit_row(t.prime, t.width, place) for place in range(t.width)]
    if len(t) == t.width:
        return units, []
    # A row has such a multiple exactly if its filters add up to nothing with each list of factors with which those of
    # the table's rows do. What they add up to otherwise counts how often the row holds each row of the second list.
    counters = crossed(t.prime, t.width, t.lines).checks()
    counts = crossed(t.prime, t.width, counters.lines)
    lone = [unit_row(t.prime, len(counters), place) for place in range(len(counters))]
    return counts.checks().rows(), all_factors(counts, lone)


def gap(watcher, other):
    """Return the bound rows, the ties and the free rows of what two watchers know together.

    Each row that both know together is a combination of the bound and the free rows in just one way. The watcher knows
    some multiple of each bound row, but no combination of free rows. A tie is a list of filters with which the bound
    rows add up to what the watcher knows; the ties make a least table, with a head in each column.
    """
    world = watcher.world
    known, both = watcher.base(), (watcher + other).base()
    if not len(known):
        return [], [], both.rows()
    told = Table(world.prime, len(both), all_factors(both, known.lines))
    bound, free = parted(told)
    ties = Table(world.prime, len(bound), all_factors(Table(world.prime, len(both), bound), told.lines)).least()
    rows = [row_sum(world.prime, world.width, factors, both.lines) for factors in bound + free]
    return rows[:len(bound)], ties.rows(), rows[len(bound):]


def check_choice(lack, shown, digits):
    """Raise the error that forbids to choose these sequences and digits, if there is one."""
    prime = lack.watcher.world.prime
    if not is_sequences(prime, len(lack.shown), shown):
        raise BadSequences()
    if not is_digits(prime, sum(lack.spans), digits):
        raise BadDigits()


def chosen_case(lack, view, shown, digits):
    """Return a case with a possible view, with the shown sequences and with the digits at the spots."""
    world = lack.watcher.world
    known = [row_sum(world.prime, world.width, tie, lack.bound) for tie in lack.ties]
    wanted = [applied(world.prime, factors, view) for factors in known_by(lack.watcher, known)]
    starts = [digits[sum(lack.spans[:at]):][:span] for at, span in enumerate(lack.spans)]
    kept = filled(world.prime, len(lack.bound), list(enumerate(lack.ties)), wanted, starts)
    return fitted(Table(world.prime, world.width, lack.bound + lack.shown), kept + list(shown))


def lacks(watcher, other):
    """Return how many sequences and how many digits the watcher lacks of what the other one sees."""
    return missing(watcher, other).counts


def missing(watcher, other):
    """Return what the watcher lacks of what the other one sees."""
    check_worlds(watcher, other)
    return Missing(watcher, other)


class Missing:
    """Sequences and digits that can be chosen freely while a watcher sees the same, and that tell the other's view."""

    def __init__(self, watcher, other):
        bound, ties, shown = gap(watcher, other)
        self.watcher = watcher
        self.other = other
        self.bound = tuple([tuple(row) for row in bound])
        self.ties = tuple([tuple(row) for row in ties])
        self.shown = tuple([tuple(row) for row in shown])
        self.spans = tuple([tie[at].span() for at, tie in enumerate(self.ties)])

    @property
    def counts(self):
        """The number of the sequences and that of the digits."""
        return len(self.shown), sum(self.spans)

    def rows(self):
        """Return the list of the shown rows, as lists."""
        return [list(row) for row in self.shown]

    def spots(self):
        """Return the list of the spots, pairs of a row and a place."""
        return [(list(row), place) for row, span in zip(self.bound, self.spans) for place in range(span)]

    def case(self, shown, digits):
        """Return a case in which the watcher sees zeros, and which shows these sequences and has these digits."""
        check_choice(self, shown, digits)
        zeros = [Sequence.zero(self.watcher.world.prime) for row in self.watcher.lines]
        return chosen_case(self, zeros, shown, digits)

    def worked(self, view, shown, digits):
        """Return what the other watcher sees in each case that has this view, these shown sequences and digits."""
        check_view(self.watcher, view)
        check_choice(self, shown, digits)
        if broken(self.watcher, view) is not None:
            raise Impossible()
        watcher = self.other
        return watcher(chosen_case(self, view, shown, digits))

    def __eq__(self, other):
        if not isinstance(other, Missing) or self.watcher.world != other.watcher.world:
            return False
        return self.watcher.lines == other.watcher.lines and self.other.lines == other.other.lines

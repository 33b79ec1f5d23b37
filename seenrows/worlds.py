"""Worlds, whose cases nobody shows, and watchers, who see what some rows give in a case."""

from seenrows.errors import NotCase, UnlikeWorlds
from seenrows.rows import unit_row
from seenrows.sequences import Sequence, is_sequences
from seenrows.tables import Table, all_factors


def check_worlds(watcher, other):
    """Raise UnlikeWorlds if the watchers have unlike worlds."""
    if watcher.world != other.world:
        raise UnlikeWorlds()


def have_same_combinations(t, u):
    """Tell whether the combinations of two tables of one prime and width are the same."""
    return t.lines == u.lines or t.least() == u.least()


def own_table(watcher):
    """Return the table of the rows of a watcher."""
    return Table(watcher.world.prime, watcher.world.width, watcher.lines)


def sight(watcher):
    """Return the table of the rows of a watcher, then the rules of its world."""
    return own_table(watcher) + watcher.world.rule_table


def known_by(watcher, rows):
    """Return for each row the factors, one for each row of the watcher, that make it up to a silent row.

    None is returned if the watcher does not know one of the rows.
    """
    found = all_factors(sight(watcher), rows)
    return None if found is None else [factors[:len(watcher)] for factors in found]


class World:
    """The world of a prime with so many sequences that keep these rules, rows of filters."""

    def __init__(self, prime, width, rules=()):
        self.rule_table = Table(prime, width, rules)
        self.prime = prime
        self.width = width

    def rules(self):
        """Return the table of the rules."""
        return self.rule_table

    def is_case(self, thing):
        """Tell whether the thing is a list of sequences that keep the rules."""
        if not is_sequences(self.prime, self.width, thing):
            return False
        table = self.rule_table
        return not any([bool(x) for x in table(thing)])

    def zeros(self):
        """Return the case of sequences of zeros."""
        return [Sequence.zero(self.prime) for column in range(self.width)]

    def everything(self):
        """Return the watcher that sees each sequence of the world itself."""
        return Watcher(self, [unit_row(self.prime, self.width, column) for column in range(self.width)])

    def nothing(self):
        """Return the watcher without rows."""
        return Watcher(self)

    def __eq__(self, other):
        if not isinstance(other, World) or self.prime != other.prime or self.width != other.width:
            return False
        return have_same_combinations(self.rule_table, other.rule_table)


class Watcher:
    """The watcher of a world who sees the sequences that these rows give."""

    def __init__(self, world, rows=()):
        self.world = world
        self.lines = Table(world.prime, world.width, rows).lines

    def rows(self):
        """Return the list of the rows, as lists."""
        return [list(line) for line in self.lines]

    def base(self):
        """Return the least table of the rows and the rules."""
        return sight(self).least()

    def is_silent(self):
        """Tell whether every row gives zeros in each case."""
        return own_table(self) <= self.world.rule_table

    def __call__(self, case):
        if not self.world.is_case(case):
            raise NotCase()
        table = own_table(self)
        return table(case)

    def __len__(self):
        return len(self.lines)

    def __iter__(self):
        return iter(self.lines)

    def __contains__(self, x):
        return x in sight(self)

    def __eq__(self, other):
        if not isinstance(other, Watcher) or self.world != other.world:
            return False
        return have_same_combinations(sight(self), sight(other))

    def __le__(self, other):
        if not isinstance(other, Watcher):
            return NotImplemented
        check_worlds(self, other)
        return own_table(self) <= sight(other)

    def __lt__(self, other):
        if not isinstance(other, Watcher):
            return NotImplemented
        return self <= other and not other <= self

    def __add__(self, other):
        if not isinstance(other, Watcher):
            return NotImplemented
        check_worlds(self, other)
        return Watcher(self.world, self.lines + other.lines)

    def __and__(self, other):
        if not isinstance(other, Watcher):
            raise TypeError("a watcher knows rows together with a watcher only")
        check_worlds(self, other)
        return Watcher(self.world, (self.base() & other.base()).rows())

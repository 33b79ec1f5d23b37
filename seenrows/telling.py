"""Formulas, by which a watcher works out what another one sees, and twins, which show that there is none."""

from seenrows.lacking import missing
from seenrows.kinds import is_list
from seenrows.rows import is_row, row_sum
from seenrows.sequences import Sequence
from seenrows.tables import Table
from seenrows.worlds import check_worlds, known_by


def formula(watcher, other):
    """Return lists of filters by which the watcher works out what the other one sees, None if there are none."""
    check_worlds(watcher, other)
    return known_by(watcher, other.lines)


def is_formula(watcher, other, thing):
    """Tell whether the thing is a list by which the watcher works out, in every case, what the other one sees."""
    check_worlds(watcher, other)
    world = watcher.world
    if not is_list(thing) or len(thing) != len(other):
        return False
    if not all([is_row(world.prime, len(watcher), factors) for factors in thing]):
        return False
    told = [row_sum(world.prime, world.width, factors, watcher.lines) for factors in thing]
    left = [[f - g for f, g in zip(row, total)] for row, total in zip(other.lines, told)]
    return Table(world.prime, world.width, left) <= world.rules()


def twins(watcher, other):
    """Return two cases that look the same to the watcher and unlike to the other one, None if there are none."""
    lack = missing(watcher, other)
    many, few = lack.counts
    if not many and not few:
        return None
    choice = [1] + [0 for more in range(many + few - 1)]
    shown = [Sequence.repeated(watcher.world.prime, [digit]) for digit in choice[:many]]
    return watcher.world.zeros(), lack.case(shown, choice[many:])

"""Strands: each n-th digit of a sequence, and the worlds and watchers of strands."""

from seenrows.division import lcm
from seenrows.errors import BadCount, BadPlace, BadPlaces, BadSequences
from seenrows.filters import Filter
from seenrows.kinds import is_below, is_count, is_list
from seenrows.sequences import Sequence, is_sequences
from seenrows.tables import Table
from seenrows.worlds import Watcher, World


def check_count(n):
    """Raise BadCount if something is no integer from 1 on."""
    if not is_count(n):
        raise BadCount(n)


def are_places(n, thing):
    """Tell whether the thing is a list of unlike integers from 0 to n - 1."""
    if not is_list(thing) or not all([is_below(n, place) for place in thing]):
        return False
    return len(set(thing)) == len(thing)


def strand_filters(f, n, r):
    """Return the filters that turn the strands of a sequence into the strand r of what f gives."""
    moved = [(r + offset, coefficient) for offset, coefficient in f.terms()]
    return [
        Filter(f.prime, [(offset // n, coefficient) for offset, coefficient in moved if offset % n == place])
        for place in range(n)
    ]


def strand_row(row, n, r):
    """Return the row that gives the strand r of what a row gives."""
    return [f for whole in row for f in strand_filters(whole, n, r)]


def common_rule(x, n):
    """Return a filter that rules all strands of the sequence and whose span is no greater than that of its rule."""
    # The table of the rule turns the strands into zeros, and so does its determinant: the product of the heads.
    rule = Filter.shift(x.prime, 0)
    for place, row in enumerate(strand_table(x.rule(), n).least()):
        rule = rule * row[place]
    return rule


def strand(x, n, r):
    """Return the sequence of each n-th digit of a sequence, from the place r on."""
    check_count(n)
    if not is_below(n, r):
        raise BadPlace(r)
    rule = common_rule(x, n)
    return Sequence(rule, x.digits(r, n * rule.span())[::n])


def strands(x, n):
    """Return the list of all n strands of a sequence."""
    check_count(n)
    rule = common_rule(x, n)
    digits = x.digits(0, n * rule.span())
    return [Sequence(rule, digits[r::n]) for r in range(n)]


def woven(parts):
    """Return the sequence whose strands these are."""
    if not is_list(parts) or not len(parts) or not isinstance(parts[0], Sequence):
        raise BadSequences()
    prime = parts[0].prime
    if not is_sequences(prime, len(parts), parts):
        raise BadSequences()
    rule = Filter.shift(prime, 0)
    for part in parts:
        rule = lcm(rule, part.rule())
    lists = [part.digits(0, rule.span()) for part in parts]
    wide = Filter(prime, [(len(parts) * offset, coefficient) for offset, coefficient in rule.terms()])
    return Sequence(wide, [digits[place] for place in range(rule.span()) for digits in lists])


def strand_table(f, n):
    """Return the table that turns the strands of each sequence into those of what f gives."""
    check_count(n)
    return Table(f.prime, n, [strand_filters(f, n, r) for r in range(n)])


def strand_world(world, n):
    """Return the world whose cases are the strands of the cases of a world."""
    check_count(n)
    return World(world.prime, n * world.width, [strand_row(row, n, r) for row in world.rules() for r in range(n)])


def strand_watcher(watcher, n, places):
    """Return the watcher who sees, of each sequence that a watcher sees, the strands at these places."""
    check_count(n)
    if not are_places(n, places):
        raise BadPlaces()
    return Watcher(strand_world(watcher.world, n), [strand_row(row, n, r) for row in watcher for r in places])

"""Views: which of them are possible, and what a watcher works out from one."""

from seenrows.errors import BadSequences, Impossible, NotTold
from seenrows.fitting import broken_check, fitted
from seenrows.sequences import Sequence, is_sequences
from seenrows.tables import applied
from seenrows.worlds import check_worlds, known_by, sight


def check_view(watcher, view):
    """Raise BadSequences if something is no list of sequences, one for each row of the watcher."""
    if not is_sequences(watcher.world.prime, len(watcher), view):
        raise BadSequences()


def with_zeros(watcher, view):
    """Return the view, followed by the zeros that the rules of the world give."""
    return list(view) + [Sequence.zero(watcher.world.prime) for rule in watcher.world.rules()]


def case_of(watcher, view):
    """Return a case of which the watcher has this view, None if there is none."""
    check_view(watcher, view)
    return fitted(sight(watcher), with_zeros(watcher, view))


def broken(watcher, view):
    """Return filters with which the rows add up to a silent row, but the view not to zeros; None if it is possible."""
    check_view(watcher, view)
    check = broken_check(sight(watcher), with_zeros(watcher, view))
    return None if check is None else list(check[:len(watcher)])


def worked(watcher, view, other):
    """Return the view that the other watcher has in each case of which the watcher has this one."""
    check_worlds(watcher, other)
    check_view(watcher, view)
    told = known_by(watcher, other.lines)
    if told is None:
        raise NotTold()
    if broken(watcher, view) is not None:
        raise Impossible()
    return [applied(watcher.world.prime, factors, view) for factors in told]

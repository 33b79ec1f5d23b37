"""How much a watcher learns of what another one sees."""

from seenrows.worlds import check_worlds


def leak(watcher, other):
    """Return "known", "all", "nothing" or "some": how much the watcher learns of what the other one sees."""
    check_worlds(watcher, other)
    if other.is_silent():
        return "known"
    if other <= watcher:
        return "all"
    if (watcher & other).is_silent():
        return "nothing"
    return "some"

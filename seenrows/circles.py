"""Circles: watchers of one world, each under a name, and which of them together know or learn nothing."""

from seenrows.errors import BadName, NoName, UnlikeWorlds
from seenrows.hiding import leak
from seenrows.kinds import is_name

BLIND_WORDS = ("nothing", "known")


def check_world(world, watcher):
    """Raise UnlikeWorlds if a watcher is none of the world."""
    if watcher.world != world:
        raise UnlikeWorlds()


def in_order(held):
    """Return the dict, whose keys are names, with the names in ascending order."""
    return {name: held[name] for name in sorted([str(name) for name in held])}


def seats_of(world, pairs):
    """Return the dict of the watchers under their names, in ascending order of the names."""
    held = {}
    for name, watcher in pairs:
        if not is_name(name) or name in held:
            raise BadName(name)
        held[name] = watcher
    for watcher in list(held.values()):
        check_world(world, watcher)
    return in_order(held)


def sets_of(names):
    """Return all sets of the names, which ascend, by their sizes, and those of one size in ascending order."""
    every = [[]]
    sets = [[]]
    for size in range(len(names)):
        sets = [one + [name] for one in sets for name in names if not one or one[-1] < name]
        every.extend(sets)
    return every


def is_within(names, more):
    """Tell whether all of the names are among more names."""
    return all([name in more for name in names])


class Circle:
    """The circle of these watchers of a world, told as pairs (name, watcher)."""

    def __init__(self, world, watchers=()):
        self.seats = seats_of(world, watchers)
        self.world = world

    def names(self):
        """Return the ascending list of the names."""
        return list(self.seats)

    def group(self, *names):
        """Return the sum of the watchers with these names, in this order."""
        for name in names:
            if name not in self:
                raise NoName(name)
        total = self.world.nothing()
        for name in names:
            total = total + self.seats[name]
        return total

    def knowing(self, other):
        """Return the sets whose group knows each row of a watcher while no proper subset does."""
        check_world(self.world, other)
        found = []
        for one in sets_of(self.names()):
            if not any([is_within(fewer, one) for fewer in found]) and other <= self.group(*one):
                found.append(one)
        return found

    def blind(self, other):
        """Return the sets whose group learns nothing of what a watcher sees while each proper superset does."""
        check_world(self.world, other)
        found = []
        for one in reversed(list(sets_of(self.names()))):
            if not any([is_within(one, more) for more in found]) and leak(self.group(*one), other) in BLIND_WORDS:
                found.append(one)
        return found[::-1]

    def needless(self):
        """Return the ascending list of the names that could be left out alone, without any loss."""
        found = []
        for name in self.names():
            others = [more for more in self.names() if more != name]
            if self.seats[name] <= self.group(*others):
                found.append(name)
        return found

    def fewest(self):
        """Return the first set whose group knows as much as all together."""
        names = self.names()
        every = self.group(*names)
        for one in sets_of(names):
            if every <= self.group(*one):
                return one
        return names

    def __len__(self):
        return len(self.seats)

    def __iter__(self):
        return iter(self.seats)

    def __contains__(self, x):
        return is_name(x) and x in self.seats

    def __getitem__(self, at):
        if at not in self:
            raise NoName(at)
        return self.seats[at]

    def __eq__(self, other):
        return isinstance(other, Circle) and self.world == other.world and self.seats == other.seats

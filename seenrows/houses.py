"""Houses: circles that change by deeds, and wishes, which are met or not."""

from seenrows.circles import BLIND_WORDS, Circle, check_world, in_order
from seenrows.errors import BadName, BadWord, NoName, NothingToUndo
from seenrows.hiding import leak
from seenrows.kinds import is_name

KNOWS = "knows"
BLIND = "blind"


class House(Circle):
    """The house of a world, without watchers, deeds and wishes at first.

    Its dicts and tuples are never changed, but exchanged for others: so a past state is kept by keeping them.
    """

    def __init__(self, world):
        Circle.__init__(self, world)
        self.past = ()
        self.hopes = {}

    def put(self, name, watcher):
        """Put a watcher under a name and return the news."""
        if not is_name(name):
            raise BadName(name)
        check_world(self.world, watcher)
        return self.done(name, in_order({**self.seats, name: watcher}))

    def leave(self, name):
        """Take the watcher with this name out and return the news."""
        if name not in self:
            raise NoName(name)
        return self.done(name, {one: self.seats[one] for one in self.seats if one != name})

    def hand(self, giver, taker):
        """Let the taker see what it saw and then what the giver sees, and return the news."""
        for name in (giver, taker):
            if name not in self:
                raise NoName(name)
        return self.done(taker, in_order({**self.seats, taker: self[taker] + self[giver]}))

    def undo(self):
        """Take the last deed back and return the news."""
        if not self.past:
            raise NothingToUndo()
        name, seats = self.past[-1]
        return self.changed(name, seats, self.past[:-1])

    def deeds(self):
        """Return the number of the deeds that stand."""
        return len(self.past)

    def wish(self, name, who, other, word):
        """Make a wish that the watchers with these names know what another one sees, or learn nothing of it."""
        if not is_name(name) or name in self.hopes:
            raise BadName(name)
        for thing in who:
            if not is_name(thing):
                raise BadName(thing)
        check_world(self.world, other)
        if word not in (KNOWS, BLIND):
            raise BadWord(word)
        names = {thing: True for thing in who}
        self.hopes = in_order({**self.hopes, name: (tuple(names), other, word)})

    def met(self, name):
        """Tell whether the wish with this name is met."""
        if not is_name(name) or name not in self.hopes:
            raise NoName(name)
        who, other, word = self.hopes[name]
        there = [one for one in who if one in self]
        group = self.group(*there)
        if word == KNOWS:
            return other <= group
        return leak(group, other) in BLIND_WORDS

    def wishes(self):
        """Return the ascending list of the names of the wishes."""
        return list(self.hopes)

    def tried(self, work):
        """Return what a function returns that is called with the house, and let the house be as it was before."""
        seats, past, hopes = self.seats, self.past, self.hopes
        try:
            return work(self)
        finally:
            self.seats, self.past, self.hopes = seats, past, hopes

    def done(self, name, seats):
        """Do the deed that leaves these watchers, of whom the one with the name is another one, and return the news."""
        return self.changed(name, seats, self.past + ((name, self.seats),))

    def changed(self, name, seats, past):
        """Let the watchers and the deeds be these and return the news of the wishes that have the name among theirs."""
        concerned = [wish for wish in self.hopes if name in self.hopes[wish][0]]
        before = [self.met(wish) for wish in concerned]
        self.seats, self.past = seats, past
        after = [self.met(wish) for wish in concerned]
        return [(wish, new) for wish, old, new in zip(concerned, before, after) if new != old]

    def __setitem__(self, at, worth):
        self.put(at, worth)

"""Which posts, with which delays, leave a way, held against a plain reckoning of each choice by itself."""

import itertools

from tests.plain import Plain
from tests.refusing import FAR


class Guarded:
    """A house with posts, each with a reach, and every choice of them as a scene of its own."""

    def __init__(self, plain):
        self.plain, self.house, self.posts = plain, plain.house, plain.posts
        self.names = [name for name, rooms, delay in plain.posts]
        self.reaches = [reach for name, reach in plain.watchers][:len(plain.posts)]
        self.known, self.leasts = {}, {}

    def of(self, names, delays=None):
        """The scene of the posts of these names alone, with these delays more for all posts."""
        delays = delays or (0,) * len(self.posts)
        key = frozenset(names), delays
        if key not in self.known:
            chosen = [(name, rooms, (delay + more) % len(rooms), reach)
                      for (name, rooms, delay), reach, more in zip(self.posts, self.reaches, delays) if name in names]
            self.known[key] = Plain(self.plain.rooms, [tuple(door) for door in self.plain.doors], self.plain.sights,
                                    [(name, rooms, delay) for name, rooms, delay, reach in chosen],
                                    [(name, reach) for name, rooms, delay, reach in chosen])
        return self.known[key]

    def bars(self, starts, goals, names, delays=None):
        key = tuple(starts), tuple(goals), frozenset(names), delays
        if key not in self.leasts:
            self.leasts[key] = self.of(names, delays).least(starts, goals) is None
        return self.leasts[key]

    def leaves(self, ways, names, delays=None):
        """Whether one of the ways is unseen by these posts."""
        plain = self.of(names, delays)
        return any(plain.is_walk(beat % plain.wheel(), rooms) for beat, rooms in ways)

    def fewer(self, many):
        """All choices of fewer posts than so many."""
        return [chosen for size in range(many) for chosen in itertools.combinations(self.names, size)]

    def least_many(self, starts, goals):
        """How many posts bar all ways at the least, None where all of them leave one."""
        found = [len(chosen) for chosen in self.fewer(len(self.names) + 1) if self.bars(starts, goals, chosen)]
        return min(found, default=None)

    def is_path(self, starts, goals, beat, rooms):
        if abs(beat) > FAR or not rooms or rooms[0] not in starts or rooms[-1] not in goals:
            return False
        return all(a == b or frozenset((a, b)) in self.plain.doors for a, b in zip(rooms, rooms[1:]))

    def is_bar(self, starts, goals, names, ways):
        return (len(set(names)) == len(names) and all(self.is_path(starts, goals, *told) for told in ways)
                and self.bars(starts, goals, names)
                and all(self.leaves(ways, chosen) for chosen in self.fewer(len(names))))


def told_alike(ask, guarded, starts, goals):
    """What is told of the same: asked again, by lists, by tuples and by name."""
    listed = [(name, list(rooms), delay) for name, rooms, delay in guarded.posts]
    return [ask(guarded.house, guarded.posts, guarded.reaches, starts, goals),
            ask(guarded.house, listed, tuple(guarded.reaches), tuple(starts), tuple(goals)),
            ask(goals=list(goals), starts=starts, reaches=guarded.reaches, posts=tuple(guarded.posts),
                house=guarded.house)]

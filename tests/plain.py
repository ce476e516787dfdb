"""A plain reckoning of scenes, step by step along the document's words, to hold the program against."""

import itertools
import math
import random

from darkthread.house import House
from darkthread.scene import Scene


class Plain:
    """What stands at each beat, reached from beat 0 by going on, or below 0 by undoing, one beat at a time."""

    def __init__(self, rooms, doors, sights, posts, watchers, meet=False, relief=0):
        self.rooms, self.doors, self.sights = list(rooms), [frozenset(door) for door in doors], list(sights)
        self.posts, self.watchers, self.meet, self.relief = list(posts), list(watchers), meet, relief
        self.house = House(rooms, doors, sights)
        self.scene = Scene(self.house, posts, watchers, meet=meet, relief=relief)
        self.rows = {0: [name for name, reach in watchers]}
        self.low = self.high = 0
        self.known_steps = {}

    # Rounds and changes.

    def room(self, number, beat):
        name, rooms, delay = self.posts[number]
        return rooms[(beat - delay) % len(rooms)]

    def exchanges(self, beat):
        """The pairs of posts that are in one room, in the order in which they exchange their watchers."""
        if not self.meet:
            return []
        return [(one, other) for one, other in itertools.combinations(range(len(self.posts)), 2)
                if self.room(one, beat) == self.room(other, beat)]

    def relieved(self, beat):
        """The number of the post that is relieved at a beat, None where none is."""
        many = len(self.posts)
        if self.relief == 0 or many == 0 or len(self.watchers) == many or beat % self.relief:
            return None
        return beat // self.relief % many

    def gone_on(self, row, beat):
        """The watchers by their places at a beat, from those at the beat ahead."""
        row, many = list(row), len(self.posts)
        for one, other in self.exchanges(beat):
            row[one], row[other] = row[other], row[one]
        post = self.relieved(beat)
        if post is not None:
            tired = row[post]
            row[post] = row.pop(many)
            row.append(tired)
        return row

    def undone(self, row, beat):
        """The watchers by their places at the beat ahead of a beat, from those at the beat."""
        row, many = list(row), len(self.posts)
        post = self.relieved(beat)
        if post is not None:
            tired = row.pop()
            row.insert(many, row[post])
            row[post] = tired
        for one, other in reversed(self.exchanges(beat)):
            row[one], row[other] = row[other], row[one]
        return row

    def row(self, beat):
        """The watchers by their places at a beat."""
        while self.high < beat:
            self.rows[self.high + 1] = self.gone_on(self.rows[self.high], self.high + 1)
            self.high += 1
        while self.low > beat:
            self.rows[self.low - 1] = self.undone(self.rows[self.low], self.low)
            self.low -= 1
        return self.rows[beat]

    def watcher(self, number, beat):
        return self.row(beat)[number]

    def borne(self, watcher, beat):
        """The number of the post that a watcher bears, None where it waits."""
        at = self.row(beat).index(watcher)
        return at if at < len(self.posts) else None

    # The wheel.

    def span(self):
        sizes = [len(rooms) for name, rooms, delay in self.posts]
        if self.relief > 0 and 0 < len(self.posts) < len(self.watchers):
            sizes.append(self.relief * len(self.posts))
        return math.lcm(*sizes)

    def turning(self):
        behind = self.row(self.span())
        return tuple(behind.index(name) for name, reach in self.watchers)

    def wheel(self):
        spans = 1
        while self.row(spans * self.span()) != self.row(0):
            spans += 1
        return spans * self.span()

    # Light and steps.

    def lit(self, beat):
        reaches, lit = dict(self.watchers), set()
        for number in range(len(self.posts)):
            room = self.room(number, beat)
            lit.add(room)
            if reaches[self.watcher(number, beat)] == 1:
                lit.update(b for a, b in self.sights if a == room)
        return [room for room in self.rooms if room in lit]

    def dark(self, room, beat):
        return room not in self.lit(beat)

    def barred(self, a, b, beat):
        return a != b and any(self.room(number, beat - 1) == b and self.room(number, beat) == a
                              for number in range(len(self.posts)))

    def steps(self, room, beat):
        lit = self.lit(beat + 1)
        return [other for other in self.rooms if other == room or frozenset((room, other)) in self.doors
                if other not in lit and not self.barred(room, other, beat + 1)]

    # Walks, by going on with all rooms at once.

    def gone(self, rooms, beat):
        """The rooms in which one can be unseen at the next beat, having been in one of these."""
        for room in rooms:
            if (room, beat) not in self.known_steps:
                self.known_steps[room, beat] = self.steps(room, beat)
        return {other for room in rooms for other in self.known_steps[room, beat]}

    def begun(self, rooms, beat):
        return {room for room in rooms if self.dark(room, beat)}

    def least_from(self, starts, goals, beat):
        """The least beats of a way begun at a beat, None where there is none."""
        rooms = self.begun(starts, beat)
        for beats in range(len(self.rooms) * self.wheel() + 1):
            if rooms & set(goals):
                return beats
            if not rooms:
                return None
            rooms = self.gone(rooms, beat + beats)
        return None

    def least(self, starts, goals):
        """The least beats of a way begun at any beat, None where there is none."""
        found = [self.least_from(starts, goals, beat) for beat in range(self.wheel())]
        return min([beats for beats in found if beats is not None], default=None)

    def longest(self, room, beat):
        """For how many beats one can stay unseen: None where one is seen at once, -1 for ever."""
        rooms, beats = self.begun([room], beat), 0
        if not rooms:
            return None
        # With more beats than cells a walk comes to a cell again, and can so go on for ever.
        while rooms and beats <= len(self.rooms) * self.wheel():
            rooms = self.gone(rooms, beat + beats)
            beats += 1
        return -1 if rooms else beats - 1

    def is_walk(self, beat, rooms):
        if not all(room in self.rooms for room in rooms) or not self.dark(rooms[0], beat):
            return False
        return all(b in self.steps(a, beat + at) for at, (a, b) in enumerate(zip(rooms, rooms[1:])))

    def is_closed(self, starts, goals, cells, begin=None):
        wheel = self.wheel()
        if not all(room in self.rooms and room not in goals and 0 <= rest < wheel for room, rest in cells):
            return False
        for beat in range(wheel) if begin is None else [begin % wheel]:
            if not all((room, beat) in cells for room in self.begun(starts, beat)):
                return False
        return all((other, (rest + 1) % wheel) in cells for room, rest in cells for other in self.steps(room, rest))

    def is_ranked(self, ranks):
        """Whether each step from a ranked cell leads to one of lesser rank."""
        wheel, found = self.wheel(), {(room, rest): rank for room, rest, rank in ranks}
        return all(found.get((other, (rest + 1) % wheel), rank) < rank
                   for room, rest, rank in ranks for other in self.steps(room, rest))

    def walks(self, beat, rooms, beats):
        """All walks unseen of so many beats begun at a beat in one of these rooms."""
        walks = [(room,) for room in rooms if self.dark(room, beat)]
        for at in range(beats):
            walks = [walk + (room,) for walk in walks for room in self.steps(walk[-1], beat + at)]
        return walks


def pairs(text):
    """Pairs of rooms of one letter, written as words."""
    return tuple(tuple(word) for word in text.split())


ROOMS = ("hall", "stair", "attic", "cellar", "yard", "den", "loft", "pantry")
POSTS = ("north", "south", "east", "west", "mid")
WATCHERS = ("zoe", "abe", "kim", "liv", "bo", "max")


class Chance:
    """Choices that are the same for the same seed, with each Python."""

    def __init__(self, seed):
        self.source = random.Random(seed)

    def below(self, many):
        return int(self.source.random() * many)

    def one_of(self, row):
        return row[self.below(len(row))]

    def unlike_of(self, row, many):
        left = list(row)
        return [left.pop(self.below(len(left))) for number in range(many)]


def some_round(chance, house, size):
    """A round of so many rooms, by chance."""
    rooms = [chance.one_of(house.rooms())]
    while len(rooms) < size:
        rooms.append(chance.one_of(house.near(rooms[-1]) + [rooms[-1]]))
    return tuple(rooms) if house.at_hand(rooms[-1], rooms[0]) else some_round(chance, house, size)


def some_plain(seed, *, rooms=4, ring=False, doors=50, sights=30, posts=2, watchers=3, sizes=(1, 2, 3, 4),
               unlike=False, meet=False, relief=0):
    """A scene by chance, the same for the same seed; doors and sights are so many of a hundred that could be.

    In a ring each room has a door to the next one, and the last one to the first. Rounds are of these sizes, or
    each of another one of them.
    """
    chance = Chance(seed)
    names = ROOMS[:rooms]
    door_pairs = [(a, b) for a, b in itertools.combinations(names, 2)
                  if chance.below(100) < doors or ring and names.index(b) - names.index(a) in (1, rooms - 1)]
    sight_pairs = [pair for pair in itertools.permutations(names, 2) if chance.below(100) < sights]
    house = House(names, door_pairs, sight_pairs)
    chosen = chance.unlike_of(sizes, posts) if unlike else [chance.one_of(sizes) for number in range(posts)]
    rounds = [some_round(chance, house, size) for size in chosen]
    return Plain(names, door_pairs, sight_pairs,
                 [(name, row, chance.below(len(row))) for name, row in zip(POSTS, rounds)],
                 [(name, chance.below(2)) for name in WATCHERS[:watchers]], meet, relief)


def some_plains(seeds, **wanted):
    return [some_plain(seed, **wanted) for seed in range(seeds)]

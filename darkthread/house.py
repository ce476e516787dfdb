"""Houses: rooms by name, the doors between them, and which room sees which."""

from darkthread.errors import BadName, Full, Loop, NoRoom, Taken

MOST_ROOMS = 8
LONGEST_NAME = 8
SMALL_LETTERS = "abcdefghijklmnopqrstuvwxyz"


def is_name(text):
    """Whether a text is 1 to 8 small letters."""
    if not 1 <= len(text) <= LONGEST_NAME:
        return False
    return all([sign in SMALL_LETTERS for sign in text])


def need_new_name(name, others):
    """Refuse a text that cannot be the name of one more beside the others."""
    if not is_name(name):
        raise BadName(name)
    if name in others:
        raise Taken(name)


def need_room(house, room):
    """Refuse a room that the house does not have."""
    if not house.has_room(room):
        raise NoRoom(room)


def need_rooms(house, a, b):
    """Refuse two rooms unless the house has both, the first one looked at first."""
    need_room(house, a)
    need_room(house, b)


def need_unlike(house, a, b):
    """Refuse two rooms unless the house has both and they are unlike."""
    need_rooms(house, a, b)
    if a == b:
        raise Loop()


def new_names(names):
    """A copy of a row of names, none of them twice."""
    copied = []
    for name in names:
        need_new_name(name, copied)
        copied.append(name)
    return copied


def unlike_pairs(house, pairs):
    """A copy of a row of pairs, each of two unlike rooms of the house."""
    copied = []
    for a, b in pairs:
        need_unlike(house, a, b)
        copied.append((a, b))
    return copied


def linked(rooms, pairs):
    """For each room those to which a pair leads from it, by the order of the rooms."""
    return {a: [b for b in rooms if (a, b) in pairs] for a in rooms}


class House:
    """Rooms with their doors and sights; once made, a house stays as it is."""

    def __init__(self, rooms=(), doors=(), sights=()):
        if len(rooms) > MOST_ROOMS:
            raise Full()
        self.names = new_names(rooms)
        door_pairs = unlike_pairs(self, doors)
        sight_pairs = unlike_pairs(self, sights)
        self.behind = linked(self.names, door_pairs + [(b, a) for a, b in door_pairs])
        self.views = linked(self.names, sight_pairs)

    def rooms(self):
        """The rooms, in their order."""
        return list(self.names)

    def doors(self):
        """The doors, each once, as pairs with the room first that the house has first."""
        return [(a, b) for at, a in enumerate(self.names) for b in self.names[at + 1:] if b in self.behind[a]]

    def sights(self):
        """The sights, as pairs of the room that sees and the room that is seen."""
        return [(a, b) for a in self.names for b in self.views[a]]

    def has_room(self, name):
        """Whether a room has this name."""
        return name in self.names

    def near(self, room):
        """The rooms behind the doors of a room."""
        need_room(self, room)
        return list(self.behind[room])

    def sees(self, room):
        """The rooms that a room sees."""
        need_room(self, room)
        return list(self.views[room])

    def has_door(self, a, b):
        """Whether there is a door between two rooms, either way about."""
        need_rooms(self, a, b)
        return b in self.behind[a]

    def has_sight(self, a, b):
        """Whether the first room sees the second one."""
        need_rooms(self, a, b)
        return b in self.views[a]

    def at_hand(self, a, b):
        """Whether the second room is the first one, or behind a door of it."""
        return self.has_door(a, b) or a == b

    def __len__(self):
        return len(self.names)

    def __eq__(self, other):
        return (isinstance(other, House) and self.names == other.names
                and self.behind == other.behind and self.views == other.views)

    def __str__(self):
        rows = [f"room {name}" for name in self.names]
        rows += [f"door {a} {b}" for a, b in self.doors()]
        rows += [f"sight {a} {b}" for a, b in self.sights()]
        return "\n".join(rows)

    def __repr__(self):
        return f"House({len(self)} rooms, {len(self.doors())} doors, {len(self.sights())} sights)"

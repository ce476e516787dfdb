"""Several at once: joint ways of walkers who keep out of each other's rooms, and of each other's way."""

from darkthread.beats import need_beat
from darkthread.errors import Full, TooGreat
from darkthread.house import need_rooms
from darkthread.search import searched

MOST_WALKERS = 3
MOST_JOINT = 20000


def need_wishes(scene, wishes, begin):
    """Refuse too few or too many wishes, rooms that are none, and a begin that is no beat."""
    if not 1 <= len(wishes) <= MOST_WALKERS:
        raise Full()
    house = scene.house()
    for room, goal in wishes:
        need_rooms(house, room, goal)
    need_beat(begin)


def need_few(scene, wishes):
    """Refuse more than can be gone through."""
    many = scene.wheel()
    for wish in wishes:
        many *= len(scene.house())
    if many > MOST_JOINT:
        raise TooGreat(many)


def can_begin(scene, rooms, beat):
    """Whether walkers can be in these rooms at a beat, each in the dark and in a room of its own."""
    return len(set(rooms)) == len(rooms) and all([scene.is_dark(room, beat) for room in rooms])


def shut_rooms(ahead, now, room):
    """The rooms shut to one in a room by those who go from rooms ahead to others now: theirs, and whence one comes."""
    return [*now, *[a for a, b in zip(ahead, now) if b == room]]


def joint_steps(scene, rooms, rest):
    """The rows of rooms to which walkers can go at once from these rooms."""
    rows = [()]
    for room in rooms:
        steps = scene.steps(room, rest)
        longer = []
        for row in rows:
            shut = shut_rooms(rooms, row, room)
            longer += [(*row, other) for other in steps if other not in shut]
        rows = longer
    return rows


def next_joint(scene, cell):
    """The joint cells to which the joint steps from one lead."""
    rooms, rest = cell
    next_rest = (rest + 1) % scene.wheel()
    return [(row, next_rest) for row in joint_steps(scene, rooms, rest)]


def starts_of(wishes):
    """The rooms in which all begin."""
    return tuple([room for room, goal in wishes])


def goals_of(wishes):
    """The rooms to which all wish to go."""
    return tuple([goal for room, goal in wishes])


def together(scene, wishes, begin):
    """A joint way of least beats, or a closed lot of joint cells where there is none."""
    need_wishes(scene, wishes, begin)
    need_few(scene, wishes)
    starts = starts_of(wishes)
    goals = goals_of(wishes)
    beginnings = [(starts, begin % scene.wheel())] if can_begin(scene, starts, begin) else []
    row, cells = searched(beginnings,
                          lambda cell: next_joint(scene, cell),
                          lambda cell: cell[0] == goals)
    if row is None:
        return "closed", cells
    return "way", [rooms for rooms, rest in row]


def is_together(scene, wishes, begin, rows):
    """Whether a row of tuples of rooms is a joint way begun at the beat."""
    need_wishes(scene, wishes, begin)
    rooms = starts_of(wishes)
    if len(rows) == 0 or rows[0] != rooms or not can_begin(scene, rooms, begin):
        return False
    for at, row in enumerate(rows[1:]):
        if row not in joint_steps(scene, rooms, (begin + at) % scene.wheel()):
            return False
        rooms = row
    return rooms == goals_of(wishes)

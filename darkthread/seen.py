"""What was seen: which rounds of a known length fit sightings of a post without a delay."""

from darkthread.beats import need_beat
from darkthread.errors import BadNumber
from darkthread.house import need_room
from darkthread.rounds import MOST_ROUND


def need_seen(house, size, sightings):
    """Refuse a size that no round has, then sightings at no beat or of no room."""
    if not 1 <= size <= MOST_ROUND:
        raise BadNumber(size)
    for beat, room, there in sightings:
        need_beat(beat)
        need_room(house, room)


def is_left(size, sightings, at, room):
    """Whether no sighting speaks against a room at a place of a round of this size."""
    return all([(room == seen) == there for beat, seen, there in sightings if beat % size == at])


def rooms_left(house, size, sightings):
    """For each place of a round the rooms that no sighting speaks against."""
    return [[room for room in house.rooms() if is_left(size, sightings, at, room)] for at in range(size)]


def next_to(house, ahead, rooms):
    """Those of some rooms to which a stay or a door leads from one of the rooms ahead."""
    return [room for room in rooms if any([house.at_hand(other, room) for other in ahead])]


def trail_of(house, left, first):
    """For each place the rooms, of those left there, to which one can come from the first room at place 0."""
    trail = [[room for room in left[0] if room == first]]
    for rooms in left[1:]:
        trail.append(next_to(house, trail[-1], rooms))
    return trail


def round_along(house, trail):
    """A round along a trail, None where no room of its end leads to its beginning."""
    ends = next_to(house, trail[0], trail[-1])
    if len(ends) == 0:
        return None
    row = [ends[0]]
    for rooms in trail[-2::-1]:
        row.append(next_to(house, [row[-1]], rooms)[0])
    return tuple(row[::-1])


def some_round(house, left):
    """The first round found that has at each place a room that is left there, None where there is none."""
    for first in house.rooms():
        found = round_along(house, trail_of(house, left, first))
        if found is not None:
            return found
    return None


def narrowed(left, at, rooms):
    """What is left where at one place these rooms alone are."""
    return left[:at] + [rooms] + left[at + 1:]


def rounds_from(house, left, first):
    """How many rounds from a first room have at each place a room that is left there."""
    counts = {room: 1 for room in left[0] if room == first}
    for rooms in left[1:]:
        counts = {room: sum([counts[other] for other in counts if house.at_hand(other, room)]) for room in rooms}
    return sum([counts[room] for room in counts if house.at_hand(room, first)])


def fits(house, size, sightings):
    """How many rounds fit."""
    need_seen(house, size, sightings)
    left = rooms_left(house, size, sightings)
    return sum([rounds_from(house, left, first) for first in house.rooms()])


def can_be(house, size, sightings, beat):
    """The rooms in which the post can be at a beat, by rounds that fit."""
    need_seen(house, size, sightings)
    need_beat(beat)
    left = rooms_left(house, size, sightings)
    at = beat % size
    return [room for room in left[at] if some_round(house, narrowed(left, at, [room])) is not None]


def read_round(house, size, sightings):
    """The one round that fits, or two with a place at which they are unlike, or a table that shows that none does."""
    need_seen(house, size, sightings)
    left = rooms_left(house, size, sightings)
    found = some_round(house, left)
    if found is None:
        return "none", [trail_of(house, left, first) for first in house.rooms()]
    for at in range(size):
        other = some_round(house, narrowed(left, at, [room for room in left[at] if room != found[at]]))
        if other is not None:
            return "many", found, other, at
    return "one", found


def is_dead_end(house, left, first, rows):
    """Whether a table's rows for a first room show that no round from it fits."""
    if len(rows) != len(left) or not all([house.has_room(room) for rooms in rows for room in rooms]):
        return False
    if list(rows[0]) != [room for room in left[0] if room == first]:
        return False
    for at in range(1, len(rows)):
        if not all([room in rows[at] for room in next_to(house, rows[at - 1], left[at])]):
            return False
    return len(next_to(house, [first], rows[-1])) == 0


def is_misfit(house, size, sightings, table):
    """Whether a table shows that no round fits."""
    need_seen(house, size, sightings)
    if len(table) != len(house):
        return False
    left = rooms_left(house, size, sightings)
    return all([is_dead_end(house, left, first, rows) for first, rows in zip(house.rooms(), table)])

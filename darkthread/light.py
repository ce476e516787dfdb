"""Light: the rooms that posts light, and the doors through which they go."""


def lit_rooms(house, rooms, reaches):
    """The rooms lit by posts in these rooms whose watchers have these reaches."""
    lights = list(rooms)
    for room, reach in zip(rooms, reaches):
        if reach == 1:
            lights += house.sees(room)
    return [other for other in house.rooms() if other in lights]


def moves_of(before, now):
    """The moves through doors of posts that were in some rooms and are in others now."""
    return [(a, b) for a, b in zip(before, now) if a != b]


def rooms_at_hand(house):
    """For each room itself and those behind its doors."""
    rooms = house.rooms()
    return {a: [b for b in rooms if house.at_hand(a, b)] for a in rooms}

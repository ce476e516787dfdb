"""Walkers who go at once, reckoned plainly: all tuples of rooms, beat by beat."""

import itertools


def clear(rooms):
    """Whether no two are in one room."""
    return len(set(rooms)) == len(rooms)


def crossing(rooms, others):
    """Whether two go through one door against each other."""
    return any(rooms[one] == others[two] and rooms[two] == others[one]
               for one, two in itertools.combinations(range(len(rooms)), 2))


def can_stand(plain, rooms, beat):
    return clear(rooms) and all(plain.dark(room, beat) for room in rooms)


def steps(plain, rooms, beat):
    """The tuples of rooms to which all can go at once."""
    found = []
    for room in rooms:
        if (room, beat) not in plain.known_steps:
            plain.known_steps[room, beat] = plain.steps(room, beat)
        found.append(plain.known_steps[room, beat])
    return [others for others in itertools.product(*found) if clear(others) and not crossing(rooms, others)]


def least(plain, starts, goals, begin):
    """The least beats of a joint way, None where there is none."""
    wheel, beats = plain.wheel(), 0
    rows = {starts} if can_stand(plain, starts, begin % wheel) else set()
    known = set()
    while goals not in rows:
        key = frozenset(rows), beats % wheel
        if key in known:
            return None
        known.add(key)
        rows = {others for rooms in rows for others in steps(plain, rooms, (begin + beats) % wheel)}
        beats += 1
    return beats


def is_joint(plain, starts, goals, begin, rows):
    """Whether rows of rooms are a joint way."""
    wheel = plain.wheel()
    if not rows or rows[0] != starts or rows[-1] != goals or not can_stand(plain, starts, begin % wheel):
        return False
    for at, (rooms, others) in enumerate(zip(rows, rows[1:])):
        if len(others) != len(starts) or not clear(others) or crossing(rooms, others):
            return False
        if not all(b in plain.steps(a, (begin + at) % wheel) for a, b in zip(rooms, others)):
            return False
    return True


def is_closed(plain, starts, goals, begin, cells):
    """Whether joint cells show that there is no joint way."""
    wheel, lot = plain.wheel(), set(cells)
    begun = (starts, begin % wheel)
    if can_stand(plain, starts, begin % wheel) and begun not in lot:
        return False
    return all(rooms != goals and all((others, (rest + 1) % wheel) in lot for others in steps(plain, rooms, rest))
               for rooms, rest in lot)

"""What bars: the fewest posts, and the least delays, that leave no way unseen, and the ways that show it.

A guard is a pair of a post and its watcher, who has the post's name and stays with it.
"""

from darkthread.beats import is_beat
from darkthread.errors import TooGreat
from darkthread.scene import Scene
from darkthread.ways import is_walk, need_asked, way

MOST_DELAYS = 220


def guards_of(posts, reaches):
    """Posts with watchers of these reaches."""
    return [(post, (post[0], reach)) for post, reach in zip(posts, reaches)]


def guarded(house, guards):
    """The scene of a house with these guards alone."""
    return Scene(house, [post for post, watcher in guards], [watcher for post, watcher in guards])


def asked_scene(house, guards, starts, goals):
    """The scene of all guards, where it and the rooms asked for are not refused."""
    scene = guarded(house, guards)
    need_asked(scene, starts, goals, None)
    return scene


def choices(row, many):
    """All choices of so many things of a row, each in the row's order; none where there are not so many."""
    if many == 0:
        return [[]]
    return [[row[at], *others] for at in range(len(row)) for others in choices(row[at + 1:], many - 1)]


def ways_left(house, lots, starts, goals):
    """A way that each lot of guards leaves unseen, up to the first lot that leaves none."""
    ways = []
    for guards in lots:
        told = way(guarded(house, guards), starts, goals)
        if told[0] == "closed":
            return ways
        ways.append(told[1:])
    return ways


def fewest(house, posts, reaches, starts, goals):
    """The fewest posts that bar all ways, with ways that fewer leave; or a way that all posts leave."""
    guards = guards_of(posts, reaches)
    asked_scene(house, guards, starts, goals)
    lots = [chosen for many in range(len(guards) + 1) for chosen in choices(guards, many)]
    ways = ways_left(house, lots, starts, goals)
    if len(ways) == len(lots):
        beat, rooms = ways[-1]
        return "open", beat, rooms
    barring = lots[len(ways)]
    names = tuple([watcher[0] for post, watcher in barring])
    return "bars", names, [told for told, chosen in zip(ways, lots) if len(chosen) < len(barring)]


def is_path(house, starts, goals, rooms):
    """Whether a row of texts goes along doors and stays from one of starts to one of goals, seen or not."""
    if len(rooms) == 0 or not all([house.has_room(room) for room in rooms]):
        return False
    if rooms[0] not in starts or rooms[-1] not in goals:
        return False
    return all([house.at_hand(rooms[at], rooms[at + 1]) for at in range(len(rooms) - 1)])


def leaves_one(house, guards, ways):
    """Whether one of some ways is unseen by these guards."""
    scene = guarded(house, guards)
    return any([is_walk(scene, beat, rooms) for beat, rooms in ways])


def is_bar(house, posts, reaches, starts, goals, names, ways):
    """Whether the posts of these names bar all ways, and the ways show that no fewer posts do."""
    guards = guards_of(posts, reaches)
    scene = asked_scene(house, guards, starts, goals)
    numbers = [scene.post_number(name) for name in names]
    if len(set(numbers)) < len(numbers):
        return False
    if not all([is_beat(beat) and is_path(house, starts, goals, rooms) for beat, rooms in ways]):
        return False
    if way(guarded(house, [guards[number] for number in numbers]), starts, goals)[0] != "closed":
        return False
    # What some posts leave unseen is unseen by fewer of them, too: choices of one post fewer will do.
    return all([leaves_one(house, chosen, ways) for chosen in choices(guards, len(names) - 1)])


def delay_rows(sizes):
    """All rows of delays for rounds of these sizes."""
    rows = [()]
    for size in sizes:
        rows = [(*row, more) for row in rows for more in range(size)]
    return rows


def delayed(guards, delays):
    """The guards, each with so many beats more of delay."""
    later = []
    for (post, watcher), more in zip(guards, delays):
        name, rooms, delay = post
        later.append(((name, rooms, (delay + more) % len(rooms)), watcher))
    return later


def least_delays(house, posts, reaches, starts, goals):
    """The delays of a least sum that bar all ways, with ways that a lesser sum leaves; or ways that all leave."""
    guards = guards_of(posts, reaches)
    asked_scene(house, guards, starts, goals)
    rows = delay_rows([len(rooms) for name, rooms, delay in posts])
    if len(rows) > MOST_DELAYS:
        raise TooGreat(len(rows))
    rising = sorted(rows, key=sum)
    ways = ways_left(house, [delayed(guards, row) for row in rising], starts, goals)
    if len(ways) == len(rising):
        return "open", ways
    barring = rising[len(ways)]
    return "bars", barring, [told for told, row in zip(ways, rising) if sum(row) < sum(barring)]

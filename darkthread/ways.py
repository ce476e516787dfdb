"""Ways: walks unseen from some rooms to others, and closed lots of cells that show that there is none."""

from darkthread.beats import need_beat
from darkthread.cells import is_cell, next_cells
from darkthread.house import need_room
from darkthread.search import searched


def need_asked(scene, starts, goals, begin):
    """Refuse starts and goals that are no rooms, and a begin that is no beat; None is any beat."""
    house = scene.house()
    for room in [*starts, *goals]:
        need_room(house, room)
    if begin is not None:
        need_beat(begin)


def beginnings(scene, starts, begin):
    """The dark cells at which a way can begin, each once, whatever the order of starts."""
    wheel = scene.wheel()
    rests = list(range(wheel)) if begin is None else [begin % wheel]
    return [(room, rest) for rest in rests for room in scene.house().rooms()
            if room in starts and scene.is_dark(room, rest)]


def told_way(row, begin):
    """A way along a row of cells, as it is told."""
    beat = row[0][1] if begin is None else begin
    return "way", beat, tuple([room for room, rest in row])


def way(scene, starts, goals, *, begin=None):
    """A walk unseen of least beats from one of starts to one of goals, or a closed lot where there is none."""
    need_asked(scene, starts, goals, begin)
    row, cells = searched(beginnings(scene, starts, begin),
                          lambda cell: next_cells(scene, cell),
                          lambda cell: cell[0] in goals)
    if row is None:
        return "closed", cells
    return told_way(row, begin)


def is_walk(scene, beat, rooms):
    """Whether a row of texts is a walk unseen begun at the beat."""
    need_beat(beat)
    house = scene.house()
    if len(rooms) == 0 or not all([house.has_room(room) for room in rooms]):
        return False
    if not scene.is_dark(rooms[0], beat):
        return False
    wheel = scene.wheel()
    # By its rest each beat can be asked for, also one beyond the last beat.
    return all([rooms[at + 1] in scene.steps(rooms[at], (beat + at) % wheel) for at in range(len(rooms) - 1)])


def is_way(scene, starts, goals, beat, rooms):
    """Whether a row of texts is a walk unseen begun at the beat, from one of starts to one of goals."""
    need_asked(scene, starts, goals, beat)
    return is_walk(scene, beat, rooms) and rooms[0] in starts and rooms[-1] in goals


def is_closed(scene, starts, goals, cells, *, begin=None):
    """Whether a row of cells shows that no way leads from one of starts to one of goals."""
    need_asked(scene, starts, goals, begin)
    lot = {}
    for room, rest in cells:
        if not is_cell(scene, room, rest) or room in goals:
            return False
        lot[(room, rest)] = True
    if not all([cell in lot for cell in beginnings(scene, starts, begin)]):
        return False
    return all([other in lot for cell in lot for other in next_cells(scene, cell)])

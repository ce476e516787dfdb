"""Staying unseen: for how many beats one can keep to the dark, and what shows it."""

from darkthread.beats import need_beat
from darkthread.cells import is_cell, next_cells
from darkthread.house import need_room
from darkthread.ways import is_walk


def need_start(scene, room, beat):
    """Refuse a room that the house does not have, then a number that is no beat."""
    need_room(scene.house(), room)
    need_beat(beat)


def reached_from(scene, start):
    """The cells that walks from a cell come to, each with the cells to which its steps lead."""
    links = {}
    found = {start: True}
    cells = [start]
    while len(links) < len(cells):
        cell = cells[len(links)]
        behind = next_cells(scene, cell)
        links[cell] = behind
        for other in behind:
            if other not in found:
                found[other] = True
                cells.append(other)
    return links


def sources_of(links):
    """For each cell those from which a step leads to it."""
    sources = {cell: [] for cell in links}
    for cell in links:
        for other in links[cell]:
            sources[other].append(cell)
    return sources


def ranks_of(links):
    """The beats of the longest walk from each cell from which every walk ends; other cells have none."""
    sources = sources_of(links)
    unranked = {cell: len(links[cell]) for cell in links}
    ended = [cell for cell in links if unranked[cell] == 0]
    ranks = {cell: 0 for cell in ended}
    looked = 0
    while looked < len(ended):
        cell = ended[looked]
        looked += 1
        for source in sources[cell]:
            unranked[source] -= 1
            if unranked[source] == 0:
                ranks[source] = 1 + max([ranks[other] for other in links[source]])
                ended.append(source)
    return ranks


def longest_walk(links, ranks, start):
    """The rooms of a walk of as many beats as the rank of its beginning."""
    row = [start[0]]
    cell = start
    while ranks[cell] > 0:
        cell = [other for other in links[cell] if ranks[other] == ranks[cell] - 1][0]
        row.append(cell[0])
    return tuple(row)


def endless_walk(links, ranks, start):
    """The lead and the ring of a walk that keeps to cells without a rank."""
    row = []
    places = {}
    cell = start
    while cell not in places:
        places[cell] = len(row)
        row.append(cell[0])
        cell = [other for other in links[cell] if other not in ranks][0]
    return tuple(row[:places[cell]]), tuple(row[places[cell]:])


def linger(scene, room, beat):
    """Whether one in a room at a beat is seen, can stay unseen for ever, or for how many beats at most."""
    need_start(scene, room, beat)
    if not scene.is_dark(room, beat):
        return ("seen",)
    start = (room, beat % scene.wheel())
    links = reached_from(scene, start)
    ranks = ranks_of(links)
    if start in ranks:
        return "most", longest_walk(links, ranks, start), [(name, rest, ranks[(name, rest)]) for name, rest in links]
    lead, ring = endless_walk(links, ranks, start)
    return "ever", lead, ring


def is_ever(scene, room, beat, lead, ring):
    """Whether the lead, then the ring again and again, is a walk unseen from the room at the beat."""
    need_start(scene, room, beat)
    if len(ring) == 0 or len(ring) % scene.wheel() != 0:
        return False
    # Behind the ring all is as it was ahead of it: if one more step leads to its beginning, all others follow.
    row = [*lead, *ring, ring[0]]
    return row[0] == room and is_walk(scene, beat, row)


def is_ranked(scene, ranks):
    """Whether ranks, by cells, fall with each step."""
    for cell in ranks:
        for other in next_cells(scene, cell):
            if other not in ranks or ranks[other] >= ranks[cell]:
                return False
    return True


def is_most(scene, room, beat, rooms, ranks):
    """Whether the walk from the room at the beat and the ranks show that no walk from there has more beats."""
    need_start(scene, room, beat)
    if not is_walk(scene, beat, rooms) or rooms[0] != room:
        return False
    table = {}
    for name, rest, rank in ranks:
        if not is_cell(scene, name, rest) or rank < 0 or (name, rest) in table:
            return False
        table[(name, rest)] = rank
    return table.get((room, beat % scene.wheel())) == len(rooms) - 1 and is_ranked(scene, table)

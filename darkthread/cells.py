"""Cells: pairs of a room and a rest by a scene's wheel."""


def is_cell(scene, room, rest):
    """Whether a scene has this room and this rest."""
    return scene.house().has_room(room) and 0 <= rest < scene.wheel()


def next_cells(scene, cell):
    """The cells to which the steps from a cell lead."""
    room, rest = cell
    next_rest = (rest + 1) % scene.wheel()
    return [(other, next_rest) for other in scene.steps(room, rest)]

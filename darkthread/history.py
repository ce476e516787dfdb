"""History: the steps by which a book came to what it has, and what its watches told at each of them."""

from darkthread.askings import answer
from darkthread.deeds import changed, nothing_yet, scene_of
from darkthread.errors import Bare, Broken, DarkError, Missing


class Step:
    """A deed, what the book has behind it, what its watches come to then, and the notes that the deed gave."""

    def __init__(self, deed, has, told, noted):
        self.deed = deed
        self.has = has
        self.told = told
        self.noted = noted


def come_to(scene, asking):
    """What an asking comes to, also where it is refused."""
    try:
        return answer(scene, asking)
    except (DarkError, Missing) as refusal:
        return f"no {refusal.word}"


def told_by(has):
    """What the asking of each watch comes to, by the watch's name."""
    if len(has["watches"]) == 0:
        return {}
    try:
        scene = scene_of(has)
    except Bare as refusal:
        bare = f"no {refusal.word}"
        return {name: bare for name, asking in has["watches"]}
    return {name: come_to(scene, asking) for name, asking in has["watches"]}


def first_step(most_watches):
    """The step from which all deeds of a book that can have so many watches go on."""
    return Step((), nothing_yet(most_watches), {}, [])


def next_step(step, deed, number):
    """The step by a deed behind another step, being the deed of this number, counted from 1."""
    has = changed(step.has, deed)
    told = told_by(has)
    noted = [(number, name, step.told[name], told[name]) for name in told
             if name in step.told and step.told[name] != told[name]]
    return Step(deed, has, told, noted)


def steps_behind(steps, deeds):
    """The steps with those of a row of deeds behind them."""
    row = list(steps)
    for at, deed in enumerate(deeds):
        try:
            row.append(next_step(row[-1], deed, len(row)))
        except (DarkError, Missing) as refusal:
            raise Broken(at) from refusal
    return row

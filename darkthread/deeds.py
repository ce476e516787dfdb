"""Deeds: what each of them makes of what a book has.

What a book has is a dict: its rooms, doors, sights, posts, watchers and watches, each a list, its rule, a pair, and how
many watches it can have. A deed makes a new one and leaves the one ahead of it as it was.
"""

from darkthread.askings import need_asking
from darkthread.errors import BadDeed, Full, Leans, NoDoor, NoPost, NoSight, NoWatch, NoWatcher, Taken
from darkthread.house import MOST_ROOMS, House, need_new_name, need_room, need_rooms, need_unlike
from darkthread.rounds import need_round
from darkthread.scene import MOST_POSTS, MOST_WATCHERS, NEVER, Scene, names_of, need_delay, need_reach, need_relief

# For each word the kinds of the things that stand behind it.
DEED_FORMS = {
    "room": ("name",),
    "strike": ("name",),
    "door": ("name", "name"),
    "wall": ("name", "name"),
    "sight": ("name", "name"),
    "curtain": ("name", "name"),
    "post": ("name", "rooms", "number"),
    "call": ("name",),
    "delay": ("name", "number"),
    "watcher": ("name", "number"),
    "leave": ("name",),
    "lamp": ("name", "number"),
    "rule": ("meet", "number"),
    "watch": ("name", "asking"),
    "unwatch": ("name",),
}


def nothing_yet(most_watches):
    """What a book that can have so many watches has ahead of all deeds."""
    return {"rooms": [], "doors": [], "sights": [], "posts": [], "watchers": [], "rule": (False, NEVER), "watches": [],
            "most": most_watches}


def house_of(has):
    """The house of a book."""
    return House(has["rooms"], has["doors"], has["sights"])


def scene_of(has):
    """The scene of a book."""
    meet, relief = has["rule"]
    return Scene(house_of(has), has["posts"], has["watchers"], meet=meet, relief=relief)


def need_place(name, others, most):
    """Refuse a name that one more beside the others cannot get, then one more than the most."""
    need_new_name(name, others)
    if len(others) >= most:
        raise Full()


def need_post(has, post):
    """Refuse a post that the book does not have."""
    if post not in names_of(has["posts"]):
        raise NoPost(post)


def need_watcher(has, watcher):
    """Refuse a watcher whom the book does not have."""
    if watcher not in names_of(has["watchers"]):
        raise NoWatcher(watcher)


def need_watch(has, name):
    """Refuse a watch that the book does not have."""
    if name not in names_of(has["watches"]):
        raise NoWatch(name)


def without(rows, name):
    """The rows but for the one of this name."""
    return [row for row in rows if row[0] != name]


def replaced(rows, new):
    """The rows with a new one in the place of that of its name."""
    return [new if row[0] == new[0] else row for row in rows]


def goes_through(rooms, a, b):
    """Whether a round goes through the door between two rooms."""
    return any([(rooms[at - 1], rooms[at]) in ((a, b), (b, a)) for at in range(len(rooms))])


def add_room(has, name):
    """A room comes."""
    need_place(name, has["rooms"], MOST_ROOMS)
    return {**has, "rooms": [*has["rooms"], name]}


def strike_room(has, room):
    """A room goes, its doors and sights too."""
    need_room(house_of(has), room)
    for name, rooms, delay in has["posts"]:
        if room in rooms:
            raise Leans(name)
    return {**has,
            "rooms": [other for other in has["rooms"] if other != room],
            "doors": [pair for pair in has["doors"] if room not in pair],
            "sights": [pair for pair in has["sights"] if room not in pair]}


def add_door(has, a, b):
    """A door comes."""
    house = house_of(has)
    need_unlike(house, a, b)
    if house.has_door(a, b):
        raise Taken(a)
    return {**has, "doors": [*has["doors"], (a, b)]}


def wall_door(has, a, b):
    """A door goes."""
    house = house_of(has)
    need_rooms(house, a, b)
    if not house.has_door(a, b):
        raise NoDoor()
    for name, rooms, delay in has["posts"]:
        if goes_through(rooms, a, b):
            raise Leans(name)
    return {**has, "doors": [pair for pair in has["doors"] if pair not in ((a, b), (b, a))]}


def add_sight(has, a, b):
    """A sight comes."""
    house = house_of(has)
    need_unlike(house, a, b)
    if house.has_sight(a, b):
        raise Taken(a)
    return {**has, "sights": [*has["sights"], (a, b)]}


def curtain_sight(has, a, b):
    """A sight goes."""
    house = house_of(has)
    need_rooms(house, a, b)
    if not house.has_sight(a, b):
        raise NoSight()
    return {**has, "sights": [pair for pair in has["sights"] if pair != (a, b)]}


def add_post(has, name, rooms, delay):
    """A post comes."""
    need_place(name, names_of(has["posts"]), MOST_POSTS)
    need_round(house_of(has), rooms)
    need_delay(rooms, delay)
    return {**has, "posts": [*has["posts"], (name, rooms, delay)]}


def call_post(has, post):
    """A post goes."""
    need_post(has, post)
    return {**has, "posts": without(has["posts"], post)}


def delay_post(has, post, number):
    """A post has another delay from now on."""
    need_post(has, post)
    rooms = [row[1] for row in has["posts"] if row[0] == post][0]
    need_delay(rooms, number)
    return {**has, "posts": replaced(has["posts"], (post, rooms, number))}


def add_watcher(has, name, reach):
    """A watcher comes."""
    need_place(name, names_of(has["watchers"]), MOST_WATCHERS)
    need_reach(reach)
    return {**has, "watchers": [*has["watchers"], (name, reach)]}


def leave_watcher(has, watcher):
    """A watcher goes."""
    need_watcher(has, watcher)
    return {**has, "watchers": without(has["watchers"], watcher)}


def lamp_watcher(has, watcher, reach):
    """A watcher has another reach from now on."""
    need_watcher(has, watcher)
    need_reach(reach)
    return {**has, "watchers": replaced(has["watchers"], (watcher, reach))}


def set_rule(has, meet, relief):
    """Another rule holds from now on."""
    need_relief(relief)
    return {**has, "rule": (meet, relief)}


def add_watch(has, name, asking):
    """A watch comes."""
    need_place(name, names_of(has["watches"]), has["most"])
    need_asking(asking)
    return {**has, "watches": [*has["watches"], (name, asking)]}


def drop_watch(has, name):
    """A watch goes."""
    need_watch(has, name)
    return {**has, "watches": without(has["watches"], name)}


ACTIONS = {
    "room": add_room,
    "strike": strike_room,
    "door": add_door,
    "wall": wall_door,
    "sight": add_sight,
    "curtain": curtain_sight,
    "post": add_post,
    "call": call_post,
    "delay": delay_post,
    "watcher": add_watcher,
    "leave": leave_watcher,
    "lamp": lamp_watcher,
    "rule": set_rule,
    "watch": add_watch,
    "unwatch": drop_watch,
}


def need_deed(deed):
    """Refuse a tuple that is no deed, whatever its names and numbers are."""
    if len(deed) == 0 or deed[0] not in DEED_FORMS or len(deed) - 1 != len(DEED_FORMS[deed[0]]):
        raise BadDeed()


def changed(has, deed):
    """What a book has behind a deed."""
    need_deed(deed)
    action = ACTIONS[deed[0]]
    things = deed[1:]
    return action(has, *things)

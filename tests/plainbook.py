"""A plain reckoning of books: all is reckoned anew from the row of deeds, along the document's words."""

import copy

from darkthread import errors
from darkthread.book import Book
from darkthread.house import House
from darkthread.linger import linger
from darkthread.meets import posts_meet
from darkthread.scene import Scene
from darkthread.ways import way

EMPTY = {"rooms": [], "doors": [], "sights": [], "posts": [], "watchers": [], "rule": (False, 0), "watches": []}
SIZES = {"room": 2, "strike": 2, "door": 3, "wall": 3, "sight": 3, "curtain": 3, "post": 4, "call": 2, "delay": 3,
         "watcher": 3, "leave": 2, "lamp": 3, "rule": 3, "watch": 3, "unwatch": 2}
ASKING_SIZES = {"where": (3,), "who": (3,), "lit": (2,), "wheel": (1,), "meets": (3,), "way": (3, 4), "linger": (3,)}
LETTERS = set("abcdefghijklmnopqrstuvwxyz")


class Due(Exception):
    """The refusal that is due, by its word and its field."""

    def __init__(self, word, value=None):
        super().__init__(word, value)
        self.word, self.value = word, value


def due(wrong, word, value=None):
    if wrong:
        raise Due(word, value)


def named(rows):
    return [row if isinstance(row, str) else row[0] for row in rows]


def need_new(name, rows, most):
    due(not (1 <= len(name) <= 8 and set(name) <= LETTERS), "BadName", name)
    due(name in named(rows), "Taken", name)
    due(len(rows) >= most, "Full")


def need_rooms(has, *rooms):
    for room in rooms:
        due(room not in has["rooms"], "NoRoom", room)


def linked(has, a, b):
    return a == b or (a, b) in has["doors"] or (b, a) in has["doors"]


def do_room(has, name):
    need_new(name, has["rooms"], 8)
    has["rooms"].append(name)


def do_strike(has, room):
    need_rooms(has, room)
    for name, rooms, delay in has["posts"]:
        due(room in rooms, "Leans", name)
    has["rooms"].remove(room)
    for kind in ("doors", "sights"):
        has[kind] = [(a, b) for a, b in has[kind] if room != a and room != b]


def do_door(has, a, b):
    need_rooms(has, a, b)
    due(a == b, "Loop")
    due(linked(has, a, b), "Taken", a)
    has["doors"].append((a, b))


def do_wall(has, a, b):
    need_rooms(has, a, b)
    due(a == b or not linked(has, a, b), "NoDoor")
    for name, rooms, delay in has["posts"]:
        for here, there in zip(rooms, rooms[1:] + rooms[:1]):
            due({here, there} == {a, b}, "Leans", name)
    has["doors"] = [door for door in has["doors"] if set(door) != {a, b}]


def do_sight(has, a, b):
    need_rooms(has, a, b)
    due(a == b, "Loop")
    due((a, b) in has["sights"], "Taken", a)
    has["sights"].append((a, b))


def do_curtain(has, a, b):
    need_rooms(has, a, b)
    due((a, b) not in has["sights"], "NoSight")
    has["sights"].remove((a, b))


def do_post(has, name, rooms, delay):
    need_new(name, has["posts"], 5)
    due(not 1 <= len(rooms) <= 6, "BadRound")
    need_rooms(has, *rooms)
    for at, (here, there) in enumerate(zip(rooms, rooms[1:] + rooms[:1])):
        due(not linked(has, here, there), "NotAWalk", at)
    due(not 0 <= delay < len(rooms), "BadNumber", delay)
    has["posts"].append((name, rooms, delay))


def do_call(has, post):
    due(post not in named(has["posts"]), "NoPost", post)
    del has["posts"][named(has["posts"]).index(post)]


def do_delay(has, post, number):
    due(post not in named(has["posts"]), "NoPost", post)
    at = named(has["posts"]).index(post)
    rooms = has["posts"][at][1]
    due(number not in range(len(rooms)), "BadNumber", number)
    has["posts"][at] = (post, rooms, number)


def do_watcher(has, name, reach):
    need_new(name, has["watchers"], 6)
    due(reach not in (0, 1), "BadNumber", reach)
    has["watchers"].append((name, reach))


def do_leave(has, watcher):
    due(watcher not in named(has["watchers"]), "NoWatcher", watcher)
    del has["watchers"][named(has["watchers"]).index(watcher)]


def do_lamp(has, watcher, reach):
    due(watcher not in named(has["watchers"]), "NoWatcher", watcher)
    due(reach not in (0, 1), "BadNumber", reach)
    has["watchers"][named(has["watchers"]).index(watcher)] = (watcher, reach)


def do_rule(has, meet, relief):
    due(relief not in range(5), "BadNumber", relief)
    has["rule"] = (meet, relief)


def do_watch(has, name, asking):
    need_new(name, has["watches"], 4)
    due(len(asking) == 0 or len(asking) not in ASKING_SIZES.get(asking[0], ()), "BadAsking")
    has["watches"].append((name, asking))


def do_unwatch(has, name):
    due(name not in named(has["watches"]), "NoWatch", name)
    del has["watches"][named(has["watches"]).index(name)]


def gone_on(has, deed):
    """What a book has behind a deed; Due where it is refused."""
    due(len(deed) == 0 or SIZES.get(deed[0]) != len(deed), "BadDeed")
    has = copy.deepcopy(has)
    globals()[f"do_{deed[0]}"](has, *deed[1:])
    return has


def refusal_of(has, deed):
    """The word and the field of the refusal that is due, None where the deed can be done."""
    try:
        gone_on(has, deed)
    except Due as found:
        return found.word, found.value
    return None


def scene_of(has):
    meet, relief = has["rule"]
    return Scene(House(has["rooms"], has["doors"], has["sights"]), has["posts"], has["watchers"], meet=meet,
                 relief=relief)


def told_of(scene, asking):
    """What an asking comes to, by the functions themselves."""
    word, *things = asking
    if word in ("where", "who"):
        return getattr(scene, word)(*things)
    if word == "lit":
        return tuple(scene.lit(*things))
    if word == "wheel":
        return scene.wheel()
    if word == "meets":
        return tuple(posts_meet(scene, *things)[1])
    if word == "linger":
        told = linger(scene, *things)
        return len(told[1]) - 1 if told[0] == "most" else told[0]
    room, goal, *begin = things
    told = way(scene, [room], [goal], begin=begin[0] if begin else None)
    return None if told[0] == "closed" else len(told[2]) - 1


def come_to(has, asking):
    """What an asking comes to, also where it is refused."""
    try:
        return told_of(scene_of(has), asking)
    except (errors.DarkError, errors.Missing) as refusal:
        return f"no {refusal.word}"


class PlainBook:
    """The deeds that stand and those taken back; all else is reckoned from them."""

    def __init__(self, deeds=(), undone=()):
        self.deeds, self.undone = list(deeds), list(undone)

    def stands(self):
        """What the book has ahead of all deeds and behind each one."""
        found = [EMPTY]
        for deed in self.deeds:
            found.append(gone_on(found[-1], deed))
        return found

    def has(self):
        return self.stands()[-1]

    def notes(self):
        found, stands = [], self.stands()
        for at in range(1, len(stands)):
            ahead, behind = dict(stands[at - 1]["watches"]), stands[at]["watches"]
            for name, asking in behind:
                if name in ahead:
                    before, now = come_to(stands[at - 1], asking), come_to(stands[at], asking)
                    if before != now:
                        found.append((at, name, before, now))
        return found

    def refusal(self, deed):
        return refusal_of(self.has(), deed)

    def do(self, deed):
        self.deeds.append(deed)
        self.undone = []

    def undo(self):
        self.undone.append(self.deeds.pop())
        return self.undone[-1]

    def redo(self):
        self.deeds.append(self.undone.pop())
        return self.deeds[-1]


def book_of(deeds):
    """A book in which deeds were done, one by one."""
    book = Book()
    for deed in deeds:
        book.do(deed)
    return book


def ordered(rooms, pairs):
    return sorted(pairs, key=lambda pair: (rooms.index(pair[0]), rooms.index(pair[1])))


def shape_of(book):
    """All that a book tells of what it has, its deeds and its notes."""
    house = book.house()
    return {"rooms": house.rooms(), "doors": house.doors(), "sights": house.sights(), "posts": book.posts(),
            "watchers": book.watchers(), "rule": book.rules(), "watches": book.watches(), "deeds": book.deeds(),
            "notes": book.notes(), "len": len(book), "busy": book.busy(),
            "seen": [book.seen_by(name) for name, asking in book.watches()]}


def shape_due(plain):
    """The same, as it is due."""
    has = plain.has()
    rooms = has["rooms"]
    doors = [tuple(sorted(door, key=rooms.index)) for door in has["doors"]]
    return {**has, "doors": ordered(rooms, doors), "sights": ordered(rooms, has["sights"]), "deeds": plain.deeds,
            "notes": plain.notes(), "len": len(plain.deeds), "busy": False,
            "seen": [come_to(has, asking) for name, asking in has["watches"]]}

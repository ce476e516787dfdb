"""Deeds by chance: most of them can be done, some are refused."""

ROOMS = ("hall", "stair", "attic", "cellar", "yard", "den", "loft", "pantry", "shed")
POSTS = ("north", "south", "east", "west", "mid", "far")
WATCHERS = ("zoe", "abe", "kim", "liv", "bo", "max", "ida")
WATCHES = ("one", "two", "three", "four", "five")
BAD_NAMES = ("", "Hall", "hall2", "ninesigns", "a b", "-", "no\n")
NUMBERS = (0, 0, 1, 1, 2, 3, -1, 4, 5, 6, 10 ** 9, -(10 ** 10))
BEATS = (0, 1, 2, 5, -3, 10 ** 9, -(10 ** 9), 10 ** 9 + 1)
WORDS = ("room", "room", "room", "strike", "door", "door", "door", "wall", "sight", "sight", "curtain", "post", "post",
         "post", "call", "delay", "watcher", "watcher", "leave", "lamp", "rule", "watch", "watch", "unwatch")
# A book in which much can happen: by most deeds a watch sees something else.
LIVELY = (("room", "hall"), ("room", "stair"), ("room", "attic"), ("room", "cellar"), ("room", "yard"),
          ("door", "hall", "stair"), ("door", "stair", "attic"), ("door", "attic", "cellar"), ("door", "cellar", "yard"),
          ("door", "hall", "yard"), ("sight", "hall", "attic"), ("watcher", "zoe", 1), ("watcher", "abe", 0),
          ("watcher", "kim", 0), ("post", "north", ("hall", "stair", "attic", "stair"), 0),
          ("post", "south", ("yard", "cellar", "yard"), 1), ("rule", True, 2), ("watch", "one", ("lit", 1)),
          ("watch", "two", ("way", "attic", "hall")), ("watch", "three", ("wheel",)))


def some_name(chance, names):
    """Mostly a name of these, seldom one of no form."""
    return chance.one_of(BAD_NAMES) if chance.below(25) == 0 else chance.one_of(names)


def some_rooms(chance, book):
    """Rooms for a round, mostly one of the book's house."""
    house = book.house()
    if len(house) == 0 or chance.below(6) == 0:
        return tuple(some_name(chance, ROOMS) for at in range(chance.below(8)))
    rooms = [chance.one_of(house.rooms())]
    for at in range(chance.below(3)):
        rooms.append(chance.one_of(house.near(rooms[-1]) + [rooms[-1]]))
    return tuple(rooms + rooms[-2:0:-1])


def some_asking(chance):
    word = chance.one_of(("where", "who", "lit", "wheel", "meets", "way", "way", "linger", "odd"))
    post, other, room, goal = [chance.one_of(row) for row in (POSTS[:3], POSTS[:3], ROOMS[:5], ROOMS[:5])]
    beat = chance.one_of(BEATS)
    forms = {"where": (post, beat), "who": (post, beat), "lit": (beat,), "wheel": (), "meets": (post, other),
             "way": (room, goal) if chance.below(2) else (room, goal, beat), "linger": (room, beat), "odd": (room,)}
    return (word, *forms[word])


def some_pair(chance, book, word):
    """Two rooms, for what goes mostly a pair that is there."""
    rows = {"wall": book.house().doors(), "curtain": book.house().sights()}.get(word)
    if rows and chance.below(3):
        return chance.one_of(rows)
    names = book.house().rooms() if len(book.house()) > 1 and chance.below(4) else ROOMS
    return some_name(chance, names), some_name(chance, names)


def some_deed(chance, book):
    """A deed for a book."""
    word = chance.one_of(WORDS)
    post, watcher, watch = [some_name(chance, row) for row in (POSTS, WATCHERS, WATCHES)]
    room = some_name(chance, ROOMS)
    number = chance.one_of(NUMBERS)
    things = {"room": (room,), "strike": (room,), "post": (post, some_rooms(chance, book), chance.below(3)),
              "call": (post,), "delay": (post, number), "watcher": (watcher, number % 3), "leave": (watcher,),
              "lamp": (watcher, number), "rule": (chance.below(2) == 0, number), "watch": (watch, some_asking(chance)),
              "unwatch": (watch,)}
    return (word, *(things[word] if word in things else some_pair(chance, book, word)))

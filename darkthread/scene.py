"""Scenes: a house with posts on their rounds and the watchers who bear them, at all beats."""

from darkthread.beats import need_beat
from darkthread.changes import orders_of, places_of, rooms_at, span_of
from darkthread.errors import BadNumber, Bare, Full, NoPost, NoWatcher
from darkthread.house import House, need_new_name, need_room, need_rooms
from darkthread.light import lit_rooms, moves_of, rooms_at_hand
from darkthread.rounds import need_round, place

MOST_POSTS = 5
MOST_WATCHERS = 6
MOST_RELIEF = 4
NEVER = 0


def need_delay(rooms, delay):
    """Refuse a delay that a post on this round cannot have."""
    if not 0 <= delay < len(rooms):
        raise BadNumber(delay)


def need_reach(reach):
    """Refuse a number that is no reach."""
    if reach not in (0, 1):
        raise BadNumber(reach)


def need_relief(relief):
    """Refuse a number that is no relief."""
    if not NEVER <= relief <= MOST_RELIEF:
        raise BadNumber(relief)


def need_counts(posts, watchers):
    """Refuse more posts or watchers than a scene can have."""
    if len(posts) > MOST_POSTS or len(watchers) > MOST_WATCHERS:
        raise Full()


def names_of(rows):
    """The names of a row of posts, or of watchers."""
    return [row[0] for row in rows]


def new_posts(house, posts):
    """A copy of a row of posts, each on a round of the house."""
    copied = []
    for name, rooms, delay in posts:
        need_new_name(name, names_of(copied))
        need_round(house, rooms)
        need_delay(rooms, delay)
        copied.append((name, tuple(rooms), delay))
    return copied


def new_watchers(watchers):
    """A copy of a row of watchers."""
    copied = []
    for name, reach in watchers:
        need_new_name(name, names_of(copied))
        need_reach(reach)
        copied.append((name, reach))
    return copied


class Scene:
    """A house with its posts and watchers; once made, a scene stays as it is."""

    def __init__(self, house, posts=(), watchers=(), *, meet=False, relief=NEVER):
        need_counts(posts, watchers)
        self.home = House(house.rooms(), house.doors(), house.sights())
        self.post_rows = new_posts(self.home, posts)
        self.watcher_rows = new_watchers(watchers)
        need_relief(relief)
        if len(watchers) < len(posts):
            raise Bare()
        self.has_meet = meet
        self.relief_beats = relief
        tracks = [(rooms, delay) for name, rooms, delay in self.post_rows]
        self.span_beats = span_of(tracks, len(watchers), relief)
        self.orders = orders_of(tracks, len(watchers), meet, relief)
        stands = [rooms_at(tracks, rest) for rest in range(len(self.orders))]
        self.hands = rooms_at_hand(self.home)
        self.lights = [lit_rooms(self.home, rooms, self.reaches_in(order))
                       for rooms, order in zip(stands, self.orders)]
        # Ahead of rest 0 stands the wheel's last one, which the place -1 gives.
        self.moves = [moves_of(stands[rest - 1], rooms) for rest, rooms in enumerate(stands)]

    def reaches_in(self, order):
        """The reaches of those who bear the posts in an order, by the posts."""
        return [self.watcher_rows[number][1] for number in order[:len(self.post_rows)]]

    def post_number(self, post):
        """A post's place among the posts."""
        names = names_of(self.post_rows)
        if post not in names:
            raise NoPost(post)
        return names.index(post)

    def watcher_number(self, watcher):
        """A watcher's place among the watchers."""
        names = names_of(self.watcher_rows)
        if watcher not in names:
            raise NoWatcher(watcher)
        return names.index(watcher)

    def house(self):
        """The house."""
        return self.home

    def posts(self):
        """The names of the posts, in their order."""
        return names_of(self.post_rows)

    def watchers(self):
        """The names of the watchers, in their order."""
        return names_of(self.watcher_rows)

    def rooms_of(self, post):
        """The round of a post."""
        return self.post_rows[self.post_number(post)][1]

    def delay_of(self, post):
        """The delay of a post."""
        return self.post_rows[self.post_number(post)][2]

    def reach_of(self, watcher):
        """The reach of a watcher."""
        return self.watcher_rows[self.watcher_number(watcher)][1]

    def where(self, post, beat):
        """The room in which a post is at a beat."""
        rooms = self.rooms_of(post)
        need_beat(beat)
        return place(rooms, beat, delay=self.delay_of(post))

    def who(self, post, beat):
        """The watcher who bears a post at a beat."""
        number = self.post_number(post)
        need_beat(beat)
        order = self.orders[beat % self.wheel()]
        return self.watcher_rows[order[number]][0]

    def post_of(self, watcher, beat):
        """The post that a watcher bears at a beat, None where it waits."""
        number = self.watcher_number(watcher)
        need_beat(beat)
        at = self.orders[beat % self.wheel()].index(number)
        if at >= len(self.post_rows):
            return None
        return self.post_rows[at][0]

    def lit(self, beat):
        """The rooms that are lit at a beat."""
        need_beat(beat)
        return list(self.lights[beat % self.wheel()])

    def is_dark(self, room, beat):
        """Whether no post lights a room at a beat."""
        need_room(self.home, room)
        need_beat(beat)
        return room not in self.lights[beat % self.wheel()]

    def barred(self, a, b, beat):
        """Whether a post comes through the door against a step from a to b that ends at the beat."""
        need_rooms(self.home, a, b)
        need_beat(beat)
        return (b, a) in self.moves[beat % self.wheel()]

    def steps(self, room, beat):
        """The rooms, a beat later, to which one can go unseen from a room, itself among them."""
        need_room(self.home, room)
        need_beat(beat)
        rest = (beat + 1) % self.wheel()
        lights = self.lights[rest]
        moves = self.moves[rest]
        return [other for other in self.hands[room] if other not in lights and (other, room) not in moves]

    def span(self):
        """The beats behind which rounds and reliefs begin anew."""
        return self.span_beats

    def turning(self):
        """For each place the one to which a span's changes lead the watcher who stood there."""
        return places_of(self.orders[self.span_beats % self.wheel()])

    def wheel(self):
        """The beats behind which all is as it was."""
        return len(self.orders)

    def __len__(self):
        return len(self.post_rows)

    def __eq__(self, other):
        return (isinstance(other, Scene) and self.home == other.home and self.post_rows == other.post_rows
                and self.watcher_rows == other.watcher_rows and self.has_meet == other.has_meet
                and self.relief_beats == other.relief_beats)

    def __repr__(self):
        return f"Scene({len(self)} posts, {len(self.watcher_rows)} watchers, wheel {self.wheel()})"

"""Books: a house with its posts, watchers and watches, and the deeds by which it came to them."""

from darkthread.askings import answer, need_asking
from darkthread.deeds import house_of, need_watch, scene_of
from darkthread.errors import Nothing
from darkthread.history import first_step, next_step, steps_behind
from darkthread.lines import deed_text
from darkthread.scene import NEVER

MOST_WATCHES = 4


class Book:
    """What stands by deeds that can be taken back and done again, with notes of what the watches saw."""

    def __init__(self):
        # Ahead of the deeds' steps stands the one from which they go on.
        self.past = [first_step(MOST_WATCHES)]
        self.undone = []
        self.at_work = False

    def do(self, deed):
        """Do a deed."""
        self.past.append(next_step(self.past[-1], deed, len(self.past)))
        self.undone = []

    def all_of(self, deeds):
        """Do a row of deeds, all of them or none."""
        self.at_work = True
        try:
            steps = steps_behind(self.past, deeds)
            if len(steps) > len(self.past):
                self.undone = []
            self.past = steps
        finally:
            self.at_work = False

    def busy(self):
        """Whether a row of deeds is being done."""
        return self.at_work

    def post(self, name, rooms, *, delay=0):
        """Do the deed by which a post comes."""
        self.do(("post", name, tuple(rooms), delay))

    def watcher(self, name, *, reach=0):
        """Do the deed by which a watcher comes."""
        self.do(("watcher", name, reach))

    def rule(self, *, meet=False, relief=NEVER):
        """Do the deed by which another rule holds."""
        self.do(("rule", meet, relief))

    def undo(self):
        """Take the last deed back."""
        if len(self) == 0:
            raise Nothing()
        step = self.past.pop()
        self.undone.append(step)
        return step.deed

    def redo(self):
        """Do the deed again that was taken back last."""
        if len(self.undone) == 0:
            raise Nothing()
        step = self.undone.pop()
        self.past.append(step)
        return step.deed

    def has_now(self):
        """What the book has."""
        return self.past[-1].has

    def deeds(self):
        """The deeds that stand."""
        return [step.deed for step in self.past[1:]]

    def notes(self):
        """The notes that the deeds gave."""
        return [note for step in self.past for note in step.noted]

    def watches(self):
        """The watches with their askings."""
        return list(self.has_now()["watches"])

    def house(self):
        """The house as it stands."""
        return house_of(self.has_now())

    def posts(self):
        """The posts with their rounds and delays."""
        return list(self.has_now()["posts"])

    def watchers(self):
        """The watchers with their reaches."""
        return list(self.has_now()["watchers"])

    def rules(self):
        """Whether watchers change where posts meet, and the relief."""
        return self.has_now()["rule"]

    def scene(self):
        """The scene of what stands."""
        return scene_of(self.has_now())

    def ask(self, asking):
        """What an asking comes to."""
        need_asking(asking)
        return answer(self.scene(), asking)

    def seen_by(self, name):
        """What a watch's asking comes to, also where it is refused."""
        need_watch(self.has_now(), name)
        return self.past[-1].told[name]

    def twin(self):
        """A book that has all of this one, and goes its own way."""
        other = Book()
        other.past = list(self.past)
        other.undone = list(self.undone)
        return other

    def __len__(self):
        return len(self.past[1:])

    def __eq__(self, other):
        return (isinstance(other, Book) and self.house() == other.house() and self.posts() == other.posts()
                and self.watchers() == other.watchers() and self.rules() == other.rules()
                and self.watches() == other.watches())

    def __repr__(self):
        return f"Book({len(self.house())} rooms, {len(self.posts())} posts, {len(self)} deeds)"

    def __str__(self):
        return "".join([f"{deed_text(deed)}\n" for deed in self.deeds()])

"""What the program refuses: one class for each kind, each with its word."""


class DarkError(ValueError):
    """Something was asked or told that cannot be."""

    def __init__(self, about="it cannot be", word="DarkError"):
        ValueError.__init__(self, f"refused: {about}")
        self.word = word


class BadName(DarkError):
    """A text that is no name was to become one."""

    def __init__(self, name):
        DarkError.__init__(self, f"{name!r} is not 1 to 8 small letters", "BadName")
        self.name = name


class Taken(DarkError):
    """What was to come is there already."""

    def __init__(self, name):
        DarkError.__init__(self, f"{name!r} is taken", "Taken")
        self.name = name


class Leans(DarkError):
    """A post's round needs what was to go."""

    def __init__(self, name):
        DarkError.__init__(self, f"the post {name!r} needs it", "Leans")
        self.name = name


class BadNumber(DarkError):
    """A number beyond its bounds."""

    def __init__(self, asked):
        DarkError.__init__(self, f"{asked} is out of bounds", "BadNumber")
        self.asked = asked


class NotAWalk(DarkError):
    """From a place of a round the next room is not at hand."""

    def __init__(self, at):
        DarkError.__init__(self, f"the room behind place {at} is not at hand", "NotAWalk")
        self.at = at


class Broken(DarkError):
    """A deed of a row was refused, so none of the row is done."""

    def __init__(self, at):
        DarkError.__init__(self, f"the deed at place {at} cannot be done", "Broken")
        self.at = at


class TooGreat(DarkError):
    """There is too much to go through."""

    def __init__(self, many):
        DarkError.__init__(self, f"{many} are too many to go through", "TooGreat")
        self.many = many


class BadText(DarkError):
    """A row of a text cannot be read."""

    def __init__(self, row):
        DarkError.__init__(self, f"row {row} cannot be read", "BadText")
        self.row = row


class Full(DarkError):
    """More than the greatest count."""

    def __init__(self):
        DarkError.__init__(self, "the greatest count is reached", "Full")


class Loop(DarkError):
    """A door or a sight from a room to itself."""

    def __init__(self):
        DarkError.__init__(self, "both rooms are one", "Loop")


class NoDoor(DarkError):
    """There is no such door."""

    def __init__(self):
        DarkError.__init__(self, "there is no such door", "NoDoor")


class NoSight(DarkError):
    """There is no such sight."""

    def __init__(self):
        DarkError.__init__(self, "there is no such sight", "NoSight")


class BadRound(DarkError):
    """A row of no rooms, or of too many, is no round."""

    def __init__(self):
        DarkError.__init__(self, "a round has 1 to 6 rooms", "BadRound")


class Bare(DarkError):
    """There are fewer watchers than posts."""

    def __init__(self):
        DarkError.__init__(self, "there are fewer watchers than posts", "Bare")


class BadDeed(DarkError):
    """A tuple that is no deed."""

    def __init__(self):
        DarkError.__init__(self, "this is no deed", "BadDeed")


class BadAsking(DarkError):
    """A tuple that is no asking."""

    def __init__(self):
        DarkError.__init__(self, "this is no asking", "BadAsking")


class Missing(LookupError):
    """Something was named that is not there."""

    def __init__(self, about="it is not there", word="Missing"):
        LookupError.__init__(self, f"refused: {about}")
        self.word = word


class NoRoom(Missing):
    """No room has this name."""

    def __init__(self, name):
        Missing.__init__(self, f"there is no room {name!r}", "NoRoom")
        self.name = name


class NoPost(Missing):
    """No post has this name."""

    def __init__(self, name):
        Missing.__init__(self, f"there is no post {name!r}", "NoPost")
        self.name = name


class NoWatcher(Missing):
    """No watcher has this name."""

    def __init__(self, name):
        Missing.__init__(self, f"there is no watcher {name!r}", "NoWatcher")
        self.name = name


class NoWatch(Missing):
    """No watch has this name."""

    def __init__(self, name):
        Missing.__init__(self, f"there is no watch {name!r}", "NoWatch")
        self.name = name


class Nothing(IndexError):
    """There is no deed to take back, or none to do again."""

    def __init__(self):
        IndexError.__init__(self, "refused: there is no such deed")
        self.word = "Nothing"

"""Askings: what can be asked of a scene, by a tuple or a text, and how what it comes to is shown."""

from darkthread.errors import BadAsking, BadText
from darkthread.linger import linger
from darkthread.meets import posts_meet
from darkthread.ways import way
from darkthread.words import read_word

# For each word the kinds of things that can stand behind it.
ASKING_FORMS = {
    "where": (("name", "number"),),
    "who": (("name", "number"),),
    "lit": (("number",),),
    "wheel": ((),),
    "meets": (("name", "name"),),
    "way": (("name", "name"), ("name", "name", "number")),
    "linger": (("name", "number"),),
}


def asking_kinds(word, many):
    """The kinds of so many things behind an asking's word, None where there is no such asking."""
    for kinds in ASKING_FORMS.get(word, ()):
        if len(kinds) == many:
            return kinds
    return None


def need_asking(asking):
    """Refuse a tuple that is no asking; its names and beats are not looked at."""
    if len(asking) == 0 or asking_kinds(asking[0], len(asking) - 1) is None:
        raise BadAsking()


def answer_where(scene, post, beat):
    """The room in which a post is."""
    return scene.where(post, beat)


def answer_who(scene, post, beat):
    """The watcher who bears a post."""
    return scene.who(post, beat)


def answer_lit(scene, beat):
    """The rooms that are lit."""
    return tuple(scene.lit(beat))


def answer_wheel(scene):
    """The beats of the wheel."""
    return scene.wheel()


def answer_meets(scene, post, other):
    """The rests at which two posts are in one room."""
    return tuple(posts_meet(scene, post, other)[1])


def answer_way(scene, room, goal, beat=None):
    """The least beats of a way, None where there is none."""
    told = way(scene, (room,), (goal,), begin=beat)
    if told[0] == "closed":
        return None
    return len(told[2]) - 1


def answer_linger(scene, room, beat):
    """The greatest number of beats unseen, or a word."""
    told = linger(scene, room, beat)
    if told[0] == "most":
        return len(told[1]) - 1
    return told[0]


ANSWERS = {
    "where": answer_where,
    "who": answer_who,
    "lit": answer_lit,
    "wheel": answer_wheel,
    "meets": answer_meets,
    "way": answer_way,
    "linger": answer_linger,
}


def answer(scene, asking):
    """What an asking comes to in a scene."""
    need_asking(asking)
    teller = ANSWERS[asking[0]]
    things = asking[1:]
    return teller(scene, *things)


def asking_text(asking):
    """An asking as its words."""
    return " ".join([str(thing) for thing in asking])


def read_asking(text):
    """The asking that a text is."""
    word, *words = text.split(" ")
    kinds = asking_kinds(word, len(words))
    if kinds is None:
        raise BadText(0)
    things = [read_word(thing, kind) for thing, kind in zip(words, kinds)]
    return (word, *things)


def shown(told):
    """What an asking came to, as a text."""
    if told is None or told == ():
        return "none"
    if isinstance(told, tuple):
        return " ".join([str(thing) for thing in told])
    return str(told)

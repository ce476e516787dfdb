"""Rounds of rooms, where a post on one is, and the wheels by which rounds come together."""

from darkthread.errors import BadRound, NotAWalk
from darkthread.house import need_room

MOST_ROUND = 6


def need_round(house, rooms):
    """Refuse a row of rooms that is no round of the house."""
    if not 1 <= len(rooms) <= MOST_ROUND:
        raise BadRound()
    for room in rooms:
        need_room(house, room)
    for at, room in enumerate(rooms):
        if not house.at_hand(room, rooms[(at + 1) % len(rooms)]):
            raise NotAWalk(at)


def place(rooms, beat, *, delay=0):
    """The room in which a post on this round, with this delay, is at a beat."""
    return rooms[(beat - delay) % len(rooms)]


def turned(rooms):
    """The round turned about: at each beat where the first one is at that beat with its sign turned."""
    return tuple([place(rooms, -at) for at in range(len(rooms))])


def divisor_and_share(one, other):
    """The greatest common divisor, and how many times one leaves it as the rest by other."""
    rest, behind = one, other
    share, share_behind = 1, 0
    # At each turn rest is share times one, and behind is share_behind times one, but for a multiple of other.
    while behind > 0:
        times = rest // behind
        rest, behind = behind, rest - times * behind
        share, share_behind = share_behind, share - times * share_behind
    return rest, share


def wheel_of(sizes):
    """The least common multiple of sizes from 1 on, 1 of none."""
    wheel = 1
    for size in sizes:
        wheel = wheel // divisor_and_share(wheel, size)[0] * size
    return wheel


def met(one, other):
    """The rest and size of all numbers that have both rests by both sizes, None where no number has."""
    rest, size = one
    other_rest, other_size = other
    divisor, share = divisor_and_share(size, other_size)
    apart = other_rest - rest
    if apart % divisor != 0:
        return None
    turns = other_size // divisor
    # So many times the first size must be added to the first rest for the second rest to come out.
    times = apart // divisor * share % turns
    return rest + times * size, size * turns

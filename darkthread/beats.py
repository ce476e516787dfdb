"""Beats: the numbers at which something can be asked."""

from darkthread.errors import BadNumber

FARTHEST = 10 ** 9


def is_beat(number):
    """Whether a number is a beat."""
    return -FARTHEST <= number <= FARTHEST


def need_beat(beat):
    """Refuse a number that is no beat."""
    if not is_beat(beat):
        raise BadNumber(beat)

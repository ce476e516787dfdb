"""Beats: the numbers at which something can be asked."""

from darkthread.errors import BadNumber

FARTHEST = 10 ** 9


def need_beat(beat):
    """Refuse a number that is no beat."""
    if not -FARTHEST <= beat <= FARTHEST:
        raise BadNumber(beat)

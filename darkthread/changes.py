"""Changes: how watchers go from place to place, beat by beat, and when all is as it was.

A track is a pair of a round and a delay. An order is a list of the watchers' numbers by their places: those who bear
the posts, in the posts' order, then those who wait.
"""

from darkthread.rounds import place, wheel_of


def rooms_at(tracks, beat):
    """The rooms in which posts on these tracks are at a beat."""
    return [place(rooms, beat, delay=delay) for rooms, delay in tracks]


def has_relief(tracks, many, relief):
    """Whether any of so many watchers is ever relieved."""
    return relief > 0 and 0 < len(tracks) < many


def span_of(tracks, many, relief):
    """The beats behind which rounds and reliefs begin anew, whoever bears the posts."""
    sizes = [len(rooms) for rooms, delay in tracks]
    if has_relief(tracks, many, relief):
        sizes.append(relief * len(tracks))
    return wheel_of(sizes)


def handed_over(order, rooms):
    """The order behind the exchanges of posts that are in these rooms."""
    changed = list(order)
    for first in range(len(rooms)):
        for second in range(first + 1, len(rooms)):
            if rooms[first] == rooms[second]:
                changed[first], changed[second] = changed[second], changed[first]
    return changed


def relieved(order, posts, post):
    """The order behind the relief of one of so many posts."""
    bearing = order[:posts]
    waiting = order[posts:]
    bearing[post] = waiting[0]
    return bearing + waiting[1:] + [order[post]]


def changed_order(order, beat, tracks, meet, relief):
    """The order at a beat, from the one at the beat ahead."""
    changed = order
    if meet:
        changed = handed_over(changed, rooms_at(tracks, beat))
    if has_relief(tracks, len(order), relief) and beat % relief == 0:
        changed = relieved(changed, len(tracks), beat // relief % len(tracks))
    return changed


def orders_of(tracks, many, meet, relief):
    """The orders of so many watchers at each beat of the wheel, from beat 0 on."""
    first = list(range(many))
    span = span_of(tracks, many, relief)
    orders = [first]
    beat = 1
    order = changed_order(first, beat, tracks, meet, relief)
    # At the end of a span alone do the same changes follow again, so the first order elsewhere ends no wheel.
    while beat % span != 0 or order != first:
        orders.append(order)
        beat += 1
        order = changed_order(order, beat, tracks, meet, relief)
    return orders


def places_of(order):
    """For each watcher, by number, the place at which an order has it."""
    return tuple([order.index(watcher) for watcher in range(len(order))])

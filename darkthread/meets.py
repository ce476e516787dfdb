"""Meetings: when two posts, or two watchers, are in one room."""

from darkthread.rounds import wheel_of


def posts_meet(scene, post, other):
    """The wheel of two posts, and the rests by it of the beats at which they are in one room."""
    wheel = wheel_of((len(scene.rooms_of(post)), len(scene.rooms_of(other))))
    return wheel, [rest for rest in range(wheel) if scene.where(post, rest) == scene.where(other, rest)]


def watcher_room(scene, watcher, beat):
    """The room in which a watcher is at a beat, None where it waits."""
    post = scene.post_of(watcher, beat)
    if post is None:
        return None
    return scene.where(post, beat)


def watchers_meet(scene, watcher, other):
    """The scene's wheel, and the rests by it of the beats at which two watchers are in one room."""
    rests = []
    for rest in range(scene.wheel()):
        room = watcher_room(scene, watcher, rest)
        other_room = watcher_room(scene, other, rest)
        if room is not None and room == other_room:
            rests.append(rest)
    return scene.wheel(), rests

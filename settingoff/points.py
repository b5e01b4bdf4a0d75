"""The calls on the meeting points."""

from settingoff.refusals import NO_ROOM, ROOM, WAITS_ALREADY
from settingoff.state import Guest, ids_of, told_ids, waits, without


def group_of(guests, key):
    """The guests of the key, in order of arrival."""
    return [guest for guest in guests if guest.key.worth == key.worth]


def dissolve(rooms, m, key):
    """Set off all guests of the key."""
    ids = ids_of(group_of(rooms.points[m], key))
    rooms.points[m] = without(rooms.points[m], ids)
    return told_ids(ids)


def arrive(rooms, m, x, n, key):
    """Let x wait in its group, or set the group off if x completes it."""
    if waits(rooms, x):
        return [WAITS_ALREADY]
    group = group_of(rooms.points[m], key)
    need = group[0].need if len(group) > 0 else n
    if len(group) + 1 == need:
        ids = ids_of(group)
        rooms.points[m] = without(rooms.points[m], ids)
        return told_ids(ids + [x])
    if len(rooms.points[m]) >= ROOM:
        return [NO_ROOM]
    rooms.points[m].append(Guest(x, key, need))
    return [1]

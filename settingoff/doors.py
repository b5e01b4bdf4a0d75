"""The calls on the doors."""

from settingoff.refusals import NO_ROOM, ROOM, WAITS_ALREADY
from settingoff.state import Caller, told_ids, waits, without


def partners(callers, side, key):
    """The callers of an equal key and the other side."""
    return [one for one in callers if one.key.worth == key.worth and one.side != side]


def pair(rooms, d, x, side, key):
    """Set x off with a caller of the other side, or let it wait."""
    if waits(rooms, x):
        return [WAITS_ALREADY]
    found = partners(rooms.doors[d], side, key)
    if len(found) > 0:
        first = found[0].who
        rooms.doors[d] = without(rooms.doors[d], [first])
        return told_ids([first, x])
    if len(rooms.doors[d]) >= ROOM:
        return [NO_ROOM]
    rooms.doors[d].append(Caller(x, key, side))
    return [1]

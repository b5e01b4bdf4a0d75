"""What the rooms hold, and what all kinds of places have in common."""

from settingoff.refusals import NOT_WAITING

PLACES = 64


class Watcher:
    """One who waits for a pattern of the switches."""

    def __init__(self, who, mask, value):
        self.who = who
        self.mask = mask
        self.value = value


class Entry:
    """One who waits on a chain."""

    def __init__(self, who, key):
        self.who = who
        self.key = key


class Guest:
    """One who waits at a point."""

    def __init__(self, who, key, need):
        self.who = who
        self.key = key
        self.need = need


class Caller:
    """One who waits at a door."""

    def __init__(self, who, key, side):
        self.who = who
        self.key = key
        self.side = side


class Rooms:
    """The rooms, new: all switches are off and nobody waits."""

    def __init__(self):
        self.word = 0
        self.watchers = []
        self.chains = [[] for number in range(PLACES)]
        self.points = [[] for number in range(PLACES)]
        self.doors = [[] for number in range(PLACES)]


def ids_of(waiters):
    """The ids of the waiters, in their order."""
    return [waiter.who for waiter in waiters]


def place_of(rooms, x):
    """What x waits at, that place's number, and how many stand in front of x there."""
    # The places alone tell who waits: a list of ids beside them could come
    # to say something else than they do.
    for what, places in enumerate([[rooms.watchers], rooms.chains, rooms.points, rooms.doors], 1):
        for number, waiters in enumerate(places):
            ids = ids_of(waiters)
            if x in ids:
                return [what, number, ids.index(x)]
    return [0, 0, 0]


def waits(rooms, x):
    """Whether x waits anywhere."""
    return place_of(rooms, x)[0] > 0


def without(waiters, ids):
    """The waiters whose ids are not among those told, in their order."""
    gone = {}
    for x in ids:
        gone[x] = True
    return [waiter for waiter in waiters if waiter.who not in gone]


def told_ids(ids):
    """The answer of a call that is done and tells these ids."""
    return [0, len(ids)] + ids


def leave(rooms, x):
    """Take x away from where it waits."""
    if not waits(rooms, x):
        return [NOT_WAITING]
    rooms.watchers = without(rooms.watchers, [x])
    rooms.chains = [without(chain, [x]) for chain in rooms.chains]
    rooms.points = [without(guests, [x]) for guests in rooms.points]
    rooms.doors = [without(callers, [x]) for callers in rooms.doors]
    return told_ids([])


def clear_rooms(rooms):
    """Make the rooms new."""
    fresh = Rooms()
    rooms.word = fresh.word
    rooms.watchers = fresh.watchers
    rooms.chains = fresh.chains
    rooms.points = fresh.points
    rooms.doors = fresh.doors
    return told_ids([])

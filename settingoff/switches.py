"""The calls on the switches and their watchers."""

from settingoff.refusals import NEVER_OR_SAME, NO_ROOM, ROOM, WAITS_ALREADY
from settingoff.state import Watcher, ids_of, told_ids, waits, without


def stands(word, mask, value):
    """Whether the switches that the mask names are as the value says."""
    return word & mask == value & mask


def can_stand(mask, value):
    """Whether there is a word with which the pattern stands."""
    return value & mask == value


def could(rooms, word):
    """What put would answer."""
    return told_ids(ids_of([one for one in rooms.watchers if stands(word, one.mask, one.value)]))


def put(rooms, word):
    """Set all switches at once; set off whose pattern stands now."""
    told = could(rooms, word)
    rooms.word = word
    rooms.watchers = without(rooms.watchers, told[2:])
    return told


def switch_bit(k):
    """The word in which switch k alone is on."""
    bit = 1
    for step in range(k):
        bit = bit * 2
    return bit


def set_switch(rooms, k, how):
    """Turn switch k off (0), on (1) or over (2); then as put does."""
    bit = switch_bit(k)
    if how == 0:
        return put(rooms, (rooms.word | bit) - bit)
    if how == 1:
        return put(rooms, rooms.word | bit)
    return put(rooms, rooms.word ^ bit)


def watch(rooms, x, mask, value):
    """Let x wait for a pattern, or set it off if that stands already."""
    if waits(rooms, x):
        return [WAITS_ALREADY]
    if not can_stand(mask, value):
        return [NEVER_OR_SAME]
    if stands(rooms.word, mask, value):
        return told_ids([x])
    if len(rooms.watchers) >= ROOM:
        return [NO_ROOM]
    rooms.watchers.append(Watcher(x, mask, value))
    return [1]

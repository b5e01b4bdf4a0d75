"""The questions on the keys of a chain's entries."""

from settingoff.chains import first_at_least, holds, rising, worth_of
from settingoff.refusals import NO_ENTRY, NOT_WAITING
from settingoff.state import ids_of, place_of
from settingoff.telling import entry_told


def count_held(rooms, c, cond, key):
    """How many entries hold the condition."""
    return [len([entry for entry in rooms.chains[c] if holds(entry, cond, key)])]


def disorder(rooms, c):
    """In how many pairs the entry nearer to the front has the greater key."""
    pairs = 0
    # The worths so far are kept rising, so that the greater ones are found by halving.
    worths = []
    for entry in rooms.chains[c]:
        spot = first_at_least(worths, worth_of(entry) + 1)
        pairs = pairs + len(worths) - spot
        worths.insert(spot, worth_of(entry))
    return [pairs]


def kth(rooms, c, k):
    """The entry before which k others would stand if the chain were sorted."""
    if len(rooms.chains[c]) <= k:
        return [NO_ENTRY]
    return entry_told(rising(rooms.chains[c])[k])


def rank(rooms, x):
    """How many entries would stand before x if its chain were sorted."""
    found = place_of(rooms, x)
    if found[0] != 2:
        return [NOT_WAITING]
    return [ids_of(rising(rooms.chains[found[1]])).index(x)]

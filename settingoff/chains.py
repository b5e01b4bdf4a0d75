"""The calls on the chains."""

from settingoff.refusals import NEVER_OR_SAME, NO_ROOM, ROOM, WAITS_ALREADY
from settingoff.state import Entry, ids_of, told_ids, waits, without


def worth_of(entry):
    """What an entry's key is worth."""
    return entry.key.worth


def holds(entry, cond, key):
    """Whether an entry holds the condition beside the key told."""
    worth = worth_of(entry)
    if cond == 1:
        return worth == key.worth
    if cond == 2:
        return worth < key.worth
    if cond == 3:
        return worth > key.worth
    if cond == 4:
        return worth != key.worth
    if cond == 5:
        return worth <= key.worth
    if cond == 6:
        return worth >= key.worth
    return True


def first_at_least(highs, bound):
    """How many of the rising numbers are less than the bound."""
    low = 0
    high = len(highs)
    while low < high:
        middle = (low + high) // 2
        if highs[middle] < bound:
            low = middle + 1
        else:
            high = middle
    return low


def height(entry, order):
    """A number such that the order asks for the first greater one."""
    if order == 4 or order == 5:
        return -worth_of(entry)
    return worth_of(entry)


def greatest_so_far(chain, order):
    """For each entry the greatest height from the front up to it."""
    highs = []
    for entry in chain:
        own = height(entry, order)
        if len(highs) > 0:
            own = max(own, highs[-1])
        highs.append(own)
    return highs


def placed_by_height(chain, arrivals, order):
    """The chain with the arrivals put on it, each by an order of 2 to 5."""
    placed = list(chain)
    # These rise even where the chain isn't sorted, and they first reach a
    # bound at the first entry that does: so the spot is found by halving.
    highs = greatest_so_far(chain, order)
    for entry in arrivals:
        own = height(entry, order)
        bound = own if order == 3 or order == 5 else own + 1
        spot = first_at_least(highs, bound)
        placed.insert(spot, entry)
        # All in front of the spot are at most as high as the new entry, and
        # those behind it are at least as high: no other number changes.
        highs.insert(spot, own)
    return placed


def placed_by_order(chain, arrivals, order):
    """The chain with the arrivals put on it one behind another."""
    if order == 0:
        return chain + arrivals
    if order == 1:
        return list(reversed(arrivals)) + chain
    return placed_by_height(chain, arrivals, order)


def met_entries(chain, back, n, cond, key):
    """The first n entries that hold the condition, in the order met."""
    met = [entry for entry in chain if holds(entry, cond, key)]
    if back == 1:
        met = list(reversed(met))
    return met[:n]


def link(rooms, c, x, order, key):
    """Let x wait on a chain."""
    if waits(rooms, x):
        return [WAITS_ALREADY]
    if len(rooms.chains[c]) >= ROOM:
        return [NO_ROOM]
    rooms.chains[c] = placed_by_order(rooms.chains[c], [Entry(x, key)], order)
    return [1]


def unlink(rooms, c, back, n, cond, key):
    """Set off the first n entries that hold the condition."""
    ids = ids_of(met_entries(rooms.chains[c], back, n, cond, key))
    rooms.chains[c] = without(rooms.chains[c], ids)
    return told_ids(ids)


def move(rooms, c, d, met, order):
    """Take the entries met off chain c and put them on chain d."""
    ids = ids_of(met)
    if c != d and len(rooms.chains[d]) + len(met) > ROOM:
        return [NO_ROOM]
    rooms.chains[c] = without(rooms.chains[c], ids)
    rooms.chains[d] = placed_by_order(rooms.chains[d], met, order)
    return told_ids(ids)


def rising(chain):
    """The entries in the order of their keys, equals in the order they had."""
    return sorted(chain, key=worth_of)


def sort_chain(rooms, c, falling):
    """Put a chain's entries in the order of their keys."""
    if falling == 1:
        # Python leaves equals in their order here too.
        rooms.chains[c] = sorted(rooms.chains[c], key=worth_of, reverse=True)
    else:
        rooms.chains[c] = rising(rooms.chains[c])
    return told_ids([])


def rotate(rooms, c, n):
    """Put the first entry at the end, n times."""
    chain = rooms.chains[c]
    if len(chain) > 0:
        turns = n % len(chain)
        rooms.chains[c] = chain[turns:] + chain[:turns]
    return told_ids([])


def reverse_chain(rooms, c):
    """Put a chain's entries in the reverse order."""
    rooms.chains[c] = list(reversed(rooms.chains[c]))
    return told_ids([])


def merged(ours, theirs):
    """Both in one order; the first left of theirs comes next only if less."""
    result = []
    ours_at = 0
    theirs_at = 0
    while ours_at < len(ours) and theirs_at < len(theirs):
        if worth_of(theirs[theirs_at]) < worth_of(ours[ours_at]):
            result.append(theirs[theirs_at])
            theirs_at = theirs_at + 1
        else:
            result.append(ours[ours_at])
            ours_at = ours_at + 1
    return result + ours[ours_at:] + theirs[theirs_at:]


def merge(rooms, c, d):
    """Merge chain d into chain c."""
    if c == d:
        return [NEVER_OR_SAME]
    if len(rooms.chains[c]) + len(rooms.chains[d]) > ROOM:
        return [NO_ROOM]
    rooms.chains[c] = merged(rooms.chains[c], rooms.chains[d])
    rooms.chains[d] = []
    return told_ids([])


def cut(rooms, c, d, n):
    """Put all entries of chain c but its first n at the end of chain d."""
    if c == d:
        return [NEVER_OR_SAME]
    rest = rooms.chains[c][n:]
    if len(rooms.chains[d]) + len(rest) > ROOM:
        return [NO_ROOM]
    rooms.chains[c] = rooms.chains[c][:n]
    rooms.chains[d] = rooms.chains[d] + rest
    return told_ids([])

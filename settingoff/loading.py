"""load: the rooms that four lists tell."""

from settingoff.forms import row_in_range, row_length
from settingoff.keys import Key, common_divisor
from settingoff.refusals import ROOM, WRONG_LISTS
from settingoff.state import Caller, Entry, Guest, Watcher, clear_rooms, told_ids
from settingoff.switches import can_stand, stands


def rows_of(numbers, length):
    """The numbers in rows of this length; the last row may be shorter."""
    return [numbers[at:at + length] for at in range(0, len(numbers), length)]


def parts_of(numbers, kind):
    """A list's parts, each a number and rows of this kind, or None if they aren't of the form."""
    parts = []
    before = -1
    at = 0
    while at < len(numbers):
        start = at + 2
        if not row_in_range("part", numbers[at:start]) or numbers[at] <= before:
            return None
        before = numbers[at]
        at = start + numbers[start - 1] * row_length(kind)
        if at > len(numbers):
            return None
        parts.append((before, rows_of(numbers[start:at], row_length(kind))))
    return parts


def watchers_right(word, rows):
    """Whether all these watchers can wait together beside the word."""
    for row in rows:
        if not row_in_range("watcher", row):
            return False
        if not can_stand(row[1], row[2]) or stands(word, row[1], row[2]):
            return False
    return len(rows) <= ROOM


def keyed_rows_right(kind, rows):
    """Whether each row has its numbers in range and its key in lowest terms."""
    for row in rows:
        # A numerator of 0 shares the whole denominator, which so must be 1.
        if not row_in_range(kind, row) or common_divisor(row[1], row[2]) != 1:
            return False
    return True


def one_for_each_key(rows):
    """Whether rows of equal keys have the same last number."""
    lasts = {}
    for row in rows:
        # In lowest terms equal keys have equal numbers.
        if lasts.setdefault((row[1], row[2]), row[3]) != row[3]:
            return False
    return True


def groups_incomplete(rows):
    """Whether each group has fewer guests than it needs."""
    sizes = {}
    for row in rows:
        size = sizes.get((row[1], row[2]), 0) + 1
        if size >= row[3]:
            return False
        sizes[(row[1], row[2])] = size
    return True


def parts_right(kind, parts):
    """Whether all who are told in the parts can wait there together."""
    if parts is None:
        return False
    for number, rows in parts:
        if not keyed_rows_right(kind, rows):
            return False
        if kind != "entry" and not one_for_each_key(rows):
            return False
        if kind == "guest" and not groups_incomplete(rows):
            return False
    return True


def no_id_twice(watcher_rows, parts):
    """Whether each id is told once only."""
    ids = [row[0] for row in watcher_rows]
    for number, rows in parts:
        ids.extend([row[0] for row in rows])
    return len(set(ids)) == len(ids)


def fill_watchers(rooms, rows):
    """Let all these watchers wait."""
    rooms.watchers = [Watcher(row[0], row[1], row[2]) for row in rows]


def fill_chains(rooms, parts):
    """Let all entries of the parts wait."""
    for number, rows in parts:
        rooms.chains[number] = [Entry(row[0], Key(row[1], row[2])) for row in rows]


def fill_points(rooms, parts):
    """Let all guests of the parts wait."""
    for number, rows in parts:
        rooms.points[number] = [Guest(row[0], Key(row[1], row[2]), row[3]) for row in rows]


def fill_doors(rooms, parts):
    """Let all callers of the parts wait."""
    for number, rows in parts:
        rooms.doors[number] = [Caller(row[0], Key(row[1], row[2]), row[3]) for row in rows]


def load(rooms, word, lists):
    """Make the rooms the ones that the word and the lists tell."""
    watcher_rows = rows_of(lists[0], row_length("watcher"))
    chain_parts = parts_of(lists[1], "entry")
    point_parts = parts_of(lists[2], "guest")
    door_parts = parts_of(lists[3], "caller")
    if not watchers_right(word, watcher_rows) or not parts_right("entry", chain_parts):
        return [WRONG_LISTS]
    if not parts_right("guest", point_parts) or not parts_right("caller", door_parts):
        return [WRONG_LISTS]
    if not no_id_twice(watcher_rows, chain_parts + point_parts + door_parts):
        return [WRONG_LISTS]
    clear_rooms(rooms)
    rooms.word = word
    fill_watchers(rooms, watcher_rows)
    fill_chains(rooms, chain_parts)
    fill_points(rooms, point_parts)
    fill_doors(rooms, door_parts)
    return told_ids([])

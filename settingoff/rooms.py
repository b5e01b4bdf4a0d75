"""Calls on waiting rooms, and their answers."""

from settingoff.chains import cut, link, merge, met_entries, move, reverse_chain, rotate, sort_chain, unlink
from settingoff.doors import pair
from settingoff.forms import all_in_range, how_many_numbers
from settingoff.keys import Key
from settingoff.points import arrive, dissolve
from settingoff.refusals import OUT_OF_RANGE
from settingoff.state import Rooms, leave
from settingoff.switches import put, set_switch, watch


def do_put(rooms, numbers):
    return put(rooms, numbers[0])


def do_set(rooms, numbers):
    return set_switch(rooms, numbers[0], numbers[1])


def do_watch(rooms, numbers):
    return watch(rooms, numbers[0], numbers[1], numbers[2])


def do_link(rooms, numbers):
    key = Key(numbers[3], numbers[4])
    return link(rooms, numbers[0], numbers[1], numbers[2], key)


def do_unlink(rooms, numbers):
    key = Key(numbers[4], numbers[5])
    return unlink(rooms, numbers[0], numbers[1], numbers[2], numbers[3], key)


def do_move(rooms, numbers):
    key = Key(numbers[5], numbers[6])
    met = met_entries(rooms.chains[numbers[0]], numbers[2], numbers[3], numbers[4], key)
    return move(rooms, numbers[0], numbers[1], met, numbers[7])


def do_sort(rooms, numbers):
    return sort_chain(rooms, numbers[0], numbers[1])


def do_rotate(rooms, numbers):
    return rotate(rooms, numbers[0], numbers[1])


def do_reverse(rooms, numbers):
    return reverse_chain(rooms, numbers[0])


def do_merge(rooms, numbers):
    return merge(rooms, numbers[0], numbers[1])


def do_cut(rooms, numbers):
    return cut(rooms, numbers[0], numbers[1], numbers[2])


def do_arrive(rooms, numbers):
    key = Key(numbers[3], numbers[4])
    return arrive(rooms, numbers[0], numbers[1], numbers[2], key)


def do_dissolve(rooms, numbers):
    return dissolve(rooms, numbers[0], Key(numbers[1], numbers[2]))


def do_pair(rooms, numbers):
    key = Key(numbers[3], numbers[4])
    return pair(rooms, numbers[0], numbers[1], numbers[2], key)


def do_leave(rooms, numbers):
    return leave(rooms, numbers[0])


DOERS = {
    0: do_put,
    1: do_set,
    2: do_watch,
    3: do_link,
    4: do_unlink,
    5: do_move,
    6: do_sort,
    7: do_rotate,
    8: do_reverse,
    9: do_merge,
    10: do_cut,
    11: do_arrive,
    12: do_dissolve,
    13: do_pair,
    14: do_leave,
}


def answer(rooms, place, numbers):
    """Do one call on the rooms; what it answers."""
    if not all_in_range(place, numbers):
        return [OUT_OF_RANGE]
    return DOERS[place](rooms, numbers)


def answers(calls):
    """Do calls on new rooms; for each, how many numbers it answers, and these."""
    rooms = Rooms()
    result = []
    at = 0
    while at < len(calls):
        start = at + 1
        end = start + how_many_numbers(calls[at])
        told = answer(rooms, calls[at], calls[start:end])
        result.append(len(told))
        result.extend(told)
        at = end
    return result

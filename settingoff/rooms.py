"""Calls on waiting rooms, and their answers."""

from settingoff.chains import cut, link, merge, met_entries, move, reverse_chain, rotate, sort_chain, unlink
from settingoff.doors import pair
from settingoff.forms import call_in_range, how_many_lists, how_many_numbers
from settingoff.keys import Key
from settingoff.loading import load
from settingoff.points import arrive, dissolve
from settingoff.ranking import count_held, disorder, kth, rank
from settingoff.refusals import OUT_OF_RANGE
from settingoff.state import Rooms, clear_rooms, leave, place_of
from settingoff.switches import could, put, set_switch, watch
from settingoff.telling import all_told, chain_told, counts_told, door_told, point_told, switches_told


def do_put(rooms, numbers):
    return put(rooms, numbers[0])


def do_set(rooms, numbers):
    return set_switch(rooms, numbers[0], numbers[1])


def do_watch(rooms, numbers):
    return watch(rooms, numbers[0], numbers[1], numbers[2])


def do_link(rooms, numbers):
    key = Key(numbers[3], numbers[4])
    return link(rooms, numbers[0], numbers[1], numbers[2], key)


def do_unlink(rooms, numbers):
    key = Key(numbers[4], numbers[5])
    return unlink(rooms, numbers[0], numbers[1], numbers[2], numbers[3], key)


def do_move(rooms, numbers):
    key = Key(numbers[5], numbers[6])
    met = met_entries(rooms.chains[numbers[0]], numbers[2], numbers[3], numbers[4], key)
    return move(rooms, numbers[0], numbers[1], met, numbers[7])


def do_sort(rooms, numbers):
    return sort_chain(rooms, numbers[0], numbers[1])


def do_rotate(rooms, numbers):
    return rotate(rooms, numbers[0], numbers[1])


def do_reverse(rooms, numbers):
    return reverse_chain(rooms, numbers[0])


def do_merge(rooms, numbers):
    return merge(rooms, numbers[0], numbers[1])


def do_cut(rooms, numbers):
    return cut(rooms, numbers[0], numbers[1], numbers[2])


def do_arrive(rooms, numbers):
    key = Key(numbers[3], numbers[4])
    return arrive(rooms, numbers[0], numbers[1], numbers[2], key)


def do_dissolve(rooms, numbers):
    return dissolve(rooms, numbers[0], Key(numbers[1], numbers[2]))


def do_pair(rooms, numbers):
    key = Key(numbers[3], numbers[4])
    return pair(rooms, numbers[0], numbers[1], numbers[2], key)


def do_leave(rooms, numbers):
    return leave(rooms, numbers[0])


def do_switches(rooms, numbers):
    return switches_told(rooms)


def do_chain(rooms, numbers):
    return chain_told(rooms.chains[numbers[0]])


def do_point(rooms, numbers):
    return point_told(rooms.points[numbers[0]])


def do_door(rooms, numbers):
    return door_told(rooms.doors[numbers[0]])


def do_place(rooms, numbers):
    return place_of(rooms, numbers[0])


def do_count(rooms, numbers):
    return count_held(rooms, numbers[0], numbers[1], Key(numbers[2], numbers[3]))


def do_told(rooms, numbers):
    return all_told(rooms)


def do_clear(rooms, numbers):
    return clear_rooms(rooms)


def do_could(rooms, numbers):
    return could(rooms, numbers[0])


def do_disorder(rooms, numbers):
    return disorder(rooms, numbers[0])


def do_counts(rooms, numbers):
    return counts_told(rooms)


def do_kth(rooms, numbers):
    return kth(rooms, numbers[0], numbers[1])


def do_rank(rooms, numbers):
    return rank(rooms, numbers[0])


DOERS = {
    0: do_put,
    1: do_set,
    2: do_watch,
    3: do_link,
    4: do_unlink,
    5: do_move,
    6: do_sort,
    7: do_rotate,
    8: do_reverse,
    9: do_merge,
    10: do_cut,
    11: do_arrive,
    12: do_dissolve,
    13: do_pair,
    14: do_leave,
    15: do_switches,
    16: do_chain,
    17: do_point,
    18: do_door,
    19: do_place,
    20: do_count,
    21: do_told,
    23: do_clear,
    24: do_could,
    25: do_disorder,
    26: do_counts,
    27: do_kth,
    28: do_rank,
}


def answer(rooms, place, numbers, lists):
    """Do one call on the rooms; what it answers."""
    if not call_in_range(place, numbers):
        return [OUT_OF_RANGE]
    # load alone has lists, so it stands beside the calls of numbers only.
    if len(lists) > 0:
        return load(rooms, numbers[0], lists)
    return DOERS[place](rooms, numbers)


def lists_from(calls, at, many):
    """So many lists, each with its length before it, from there on."""
    lists = []
    start = at
    for turn in range(many):
        end = start + 1 + calls[start]
        lists.append(calls[start + 1:end])
        start = end
    return lists


def answers(calls):
    """Do calls on new rooms; for each, how many numbers it answers, and these."""
    rooms = Rooms()
    result = []
    at = 0
    while at < len(calls):
        place = calls[at]
        start = at + 1
        end = start + how_many_numbers(place)
        lists = lists_from(calls, end, how_many_lists(place))
        told = answer(rooms, place, calls[start:end], lists)
        result.append(len(told))
        result.extend(told)
        at = end + sum([1 + len(one) for one in lists])
    return result

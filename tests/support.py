"""Calls by name, and answers call by call."""

import copy

from settingoff.rooms import answers

WORD = 2 ** 59 - 1
BIG = 10 ** 18
PUT, SET, WATCH, LINK, UNLINK, MOVE, SORT, ROTATE = range(8)
REVERSE, MERGE, CUT, ARRIVE, DISSOLVE, PAIR, LEAVE = range(8, 15)
SWITCHES, CHAIN, POINT, DOOR, PLACE, COUNT, TOLD = range(15, 22)
LOAD, CLEAR, COULD, DISORDER, COUNTS, KTH, RANK = range(22, 29)
NONE = [0, 0]


def flat(calls):
    return [number for call in calls for number in call]


def split(numbers):
    """The answers of single calls, out of the one list given back."""
    result = []
    at = 0
    while at < len(numbers):
        end = at + 1 + numbers[at]
        assert numbers[at] >= 1 and end <= len(numbers)
        result.append(numbers[at + 1:end])
        at = end
    return result


def run(calls):
    """The answers of the calls; on the way, that the list handed in is kept."""
    handed = flat(calls)
    kept = copy.deepcopy(handed)
    given = answers(handed)
    assert handed == kept
    result = split(given)
    assert len(result) == len(calls)
    return result


def last(calls):
    return run(calls)[-1]


def off(*ids):
    """The answer that sets these ids off."""
    return [0, len(ids), *ids]


def empty_chain(c):
    """A call that takes all entries off c and so tells their order."""
    return (UNLINK, c, 0, 1000, 0, 0, 1)


def linked(c, entries, order=0):
    """Calls that put (id, numerator, denominator) on c one by one."""
    return [(LINK, c, x, order, kn, kd) for x, kn, kd in entries]


def load(w=0, watchers=(), chains=(), points=(), doors=()):
    """A call that loads these lists."""
    return (LOAD, w, len(watchers), *watchers, len(chains), *chains, len(points), *points, len(doors), *doors)


def part(number, *rows):
    """A part of one of load's lists."""
    return [number, len(rows), *flat(rows)]


def order_of(calls, c):
    """The ids on c, from the front, after the calls."""
    return last(list(calls) + [empty_chain(c)])[2:]


# Rooms in which somebody waits in each kind of place ...
FURNISHED = [
    (PUT, 5),
    (WATCH, 11, 3, 3), (WATCH, 12, 8, 8), (WATCH, 13, 3, 3),
    *linked(0, [(21, 3, 1), (22, 1, 1), (23, 2, 1), (24, 2, 4)]),
    *linked(63, [(25, 5, 1), (26, -5, 1)]),
    (ARRIVE, 0, 31, 4, 1, 2), (ARRIVE, 0, 32, 9, 2, 4), (ARRIVE, 0, 33, 2, 7, 1), (ARRIVE, 63, 34, 2, 1, 2),
    (PAIR, 0, 41, 0, 1, 2), (PAIR, 0, 42, 0, 3, 6), (PAIR, 0, 43, 1, 9, 1), (PAIR, 63, 44, 1, 1, 2),
]
WAITING = (11, 12, 13, 21, 22, 23, 24, 25, 26, 31, 32, 33, 34, 41, 42, 43, 44)

# ... and calls whose answers tell all of it: who, where, in which order, with which keys, needs and sides.
PROBE = [
    (TOLD,), (WATCH, 990, WORD, 5), (LEAVE, 77),
    *[(UNLINK, c, 0, 1, cond, kn, kd)
      for c in (0, 63) for cond in (2, 1, 3) for kn, kd in ((1, 2), (5, 1), (2, 1))],
    (ARRIVE, 0, 901, 1000, 1, 2), (ARRIVE, 0, 902, 1000, 1, 2), (ARRIVE, 0, 903, 1000, 7, 1),
    (ARRIVE, 63, 904, 1000, 1, 2),
    *[(DISSOLVE, m, kn, kd) for m in (0, 1, 63) for kn, kd in ((1, 2), (7, 1), (1, 1), (0, 1))],
    *[(PAIR, d, 910 + 10 * n + i, side, kn, kd)
      for n, d in enumerate((0, 1, 63))
      for i, (side, kn, kd) in enumerate(((1, 1, 2), (1, 1, 2), (0, 9, 1), (0, 1, 2), (1, 1, 2)))],
    (SET, 1, 2), (PUT, 8), (SET, 0, 2), (PUT, WORD),
    *[empty_chain(c) for c in range(64)],
    *[(LEAVE, x) for x in WAITING], (TOLD,),
]

# A call of each kind that FURNISHED's rooms answer without a refusal, and that changes them if it may.
ONE_OF_EACH = [
    (PUT, 15), (SET, 1, 1), (WATCH, 50, 64, 64), (LINK, 0, 51, 1, 1, 1), (UNLINK, 0, 0, 2, 0, 0, 1),
    (MOVE, 0, 63, 0, 1, 0, 0, 1, 0), (SORT, 0, 0), (ROTATE, 0, 1), (REVERSE, 0), (MERGE, 0, 63), (CUT, 0, 63, 1),
    (ARRIVE, 0, 52, 5, 1, 2), (DISSOLVE, 0, 1, 2), (PAIR, 0, 53, 1, 1, 2), (LEAVE, 21), (SWITCHES,), (CHAIN, 0),
    (POINT, 0), (DOOR, 0), (PLACE, 24), (COUNT, 0, 2, 3, 1), (TOLD,), load(3, (9, 4, 4), part(1, (8, 1, 2))),
    (CLEAR,), (COULD, 3), (DISORDER, 0), (COUNTS,), (KTH, 0, 1), (RANK, 24),
]
QUESTIONS = [call for call in ONE_OF_EACH if call[0] in (15, 16, 17, 18, 19, 20, 21, 24, 25, 26, 27, 28)]

# FURNISHED's rooms as load's lists.
FURNISHED_LISTS = (
    5, [11, 3, 3, 12, 8, 8, 13, 3, 3],
    part(0, (21, 3, 1), (22, 1, 1), (23, 2, 1), (24, 1, 2)) + part(63, (25, 5, 1), (26, -5, 1)),
    part(0, (31, 1, 2, 4), (32, 1, 2, 4), (33, 7, 1, 2)) + part(63, (34, 1, 2, 2)),
    part(0, (41, 1, 2, 0), (42, 1, 2, 0), (43, 9, 1, 1)) + part(63, (44, 1, 2, 1)),
)


def only_answers(call, told, before=None):
    """Whether the call answers so, and what is asked afterwards answers as without it."""
    before = FURNISHED if before is None else before
    plain = run(before + PROBE)
    cut_at = len(before)
    return run(before + [call] + PROBE) == plain[:cut_at] + [list(told)] + plain[cut_at:]


def changes_nothing(call, refusal, before=None):
    """Whether the call is refused so, and changes nothing."""
    return only_answers(call, [refusal], before)

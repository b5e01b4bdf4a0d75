"""Calls by name, and answers call by call."""

import copy

from settingoff.rooms import answers

WORD = 2 ** 59 - 1
BIG = 10 ** 18
PUT, SET, WATCH, LINK, UNLINK, MOVE, SORT, ROTATE = range(8)
REVERSE, MERGE, CUT, ARRIVE, DISSOLVE, PAIR, LEAVE = range(8, 15)
NONE = [0, 0]


def flat(calls):
    return [number for call in calls for number in call]


def split(numbers):
    """The answers of single calls, out of the one list given back."""
    result = []
    at = 0
    while at < len(numbers):
        end = at + 1 + numbers[at]
        assert numbers[at] >= 1 and end <= len(numbers)
        result.append(numbers[at + 1:end])
        at = end
    return result


def run(calls):
    """The answers of the calls; on the way, that the list handed in is kept."""
    handed = flat(calls)
    kept = copy.deepcopy(handed)
    given = answers(handed)
    assert handed == kept
    result = split(given)
    assert len(result) == len(calls)
    return result


def last(calls):
    return run(calls)[-1]


def off(*ids):
    """The answer that sets these ids off."""
    return [0, len(ids), *ids]


def empty_chain(c):
    """A call that takes all entries off c and so tells their order."""
    return (UNLINK, c, 0, 1000, 0, 0, 1)


def linked(c, entries, order=0):
    """Calls that put (id, numerator, denominator) on c one by one."""
    return [(LINK, c, x, order, kn, kd) for x, kn, kd in entries]


def order_of(calls, c):
    """The ids on c, from the front, after the calls."""
    return last(list(calls) + [empty_chain(c)])[2:]


# Rooms in which somebody waits in each kind of place ...
FURNISHED = [
    (PUT, 5),
    (WATCH, 11, 3, 3), (WATCH, 12, 8, 8), (WATCH, 13, 3, 3),
    *linked(0, [(21, 3, 1), (22, 1, 1), (23, 2, 1), (24, 2, 4)]),
    *linked(63, [(25, 5, 1), (26, -5, 1)]),
    (ARRIVE, 0, 31, 4, 1, 2), (ARRIVE, 0, 32, 9, 2, 4), (ARRIVE, 0, 33, 2, 7, 1), (ARRIVE, 63, 34, 2, 1, 2),
    (PAIR, 0, 41, 0, 1, 2), (PAIR, 0, 42, 0, 3, 6), (PAIR, 0, 43, 1, 9, 1), (PAIR, 63, 44, 1, 1, 2),
]
WAITING = (11, 12, 13, 21, 22, 23, 24, 25, 26, 31, 32, 33, 34, 41, 42, 43, 44)

# ... and calls whose answers tell all of it: who, where, in which order, with which keys, needs and sides.
PROBE = [
    (WATCH, 990, WORD, 5), (LEAVE, 77),
    *[(UNLINK, c, 0, 1, cond, kn, kd)
      for c in (0, 63) for cond in (2, 1, 3) for kn, kd in ((1, 2), (5, 1), (2, 1))],
    (ARRIVE, 0, 901, 1000, 1, 2), (ARRIVE, 0, 902, 1000, 1, 2), (ARRIVE, 0, 903, 1000, 7, 1),
    (ARRIVE, 63, 904, 1000, 1, 2),
    *[(DISSOLVE, m, kn, kd) for m in (0, 1, 63) for kn, kd in ((1, 2), (7, 1), (1, 1), (0, 1))],
    *[(PAIR, d, 910 + 10 * n + i, side, kn, kd)
      for n, d in enumerate((0, 1, 63))
      for i, (side, kn, kd) in enumerate(((1, 1, 2), (1, 1, 2), (0, 9, 1), (0, 1, 2), (1, 1, 2)))],
    (SET, 1, 2), (PUT, 8), (SET, 0, 2), (PUT, WORD),
    *[empty_chain(c) for c in range(64)],
    *[(LEAVE, x) for x in WAITING],
]


def changes_nothing(call, refusal, before=None):
    """Whether the call is refused so, and what is asked afterwards answers as without it."""
    before = FURNISHED if before is None else before
    plain = run(before + PROBE)
    cut_at = len(before)
    return run(before + [call] + PROBE) == plain[:cut_at] + [[refusal]] + plain[cut_at:]

"""-1: each number of each call at both ends of its range, and one beyond each end."""

import unittest

from support import (ARRIVE, BIG, CHAIN, CLEAR, COULD, COUNT, COUNTS, CUT, DISORDER, DISSOLVE, DOOR, FURNISHED, KTH,
                     LEAVE, LINK, LOAD, MERGE, MOVE, PAIR, PLACE, POINT, PUT, RANK, REVERSE, ROTATE, SET, SORT,
                     SWITCHES, TOLD, UNLINK, WATCH, WORD, changes_nothing, last, load)

NUMBER = (0, 63)
ID = (1, 10 ** 9)
KEY = ((-BIG, BIG), (1, BIG))
ORDER = (0, 5)
BIT = (0, 1)
COND = (0, 6)
MANY = (1, 1000)
WORDS = (0, WORD)

# For each call its ranges, and numbers with which it is done (on rooms with FURNISHED's waiters).
CALLS = {
    PUT: ((WORDS,), (6,)),
    SET: (((0, 58), (0, 2)), (3, 1)),
    WATCH: ((ID, WORDS, WORDS), (77, 6, 6)),
    LINK: ((NUMBER, ID, ORDER, *KEY), (2, 77, 0, 1, 2)),
    UNLINK: ((NUMBER, BIT, MANY, COND, *KEY), (2, 0, 1, 0, 1, 2)),
    MOVE: ((NUMBER, NUMBER, BIT, MANY, COND, *KEY, ORDER), (2, 3, 0, 1, 0, 1, 2, 0)),
    SORT: ((NUMBER, BIT), (2, 0)),
    ROTATE: ((NUMBER, (0, 10 ** 9)), (2, 1)),
    REVERSE: ((NUMBER,), (2,)),
    MERGE: ((NUMBER, NUMBER), (2, 3)),
    CUT: ((NUMBER, NUMBER, (0, 1000)), (2, 3, 1)),
    ARRIVE: ((NUMBER, ID, MANY, *KEY), (2, 77, 3, 1, 2)),
    DISSOLVE: ((NUMBER, *KEY), (2, 1, 2)),
    PAIR: ((NUMBER, ID, BIT, *KEY), (2, 77, 0, 1, 2)),
    LEAVE: ((ID,), (77,)),
    SWITCHES: ((), ()),
    CHAIN: ((NUMBER,), (2,)),
    POINT: ((NUMBER,), (2,)),
    DOOR: ((NUMBER,), (2,)),
    PLACE: ((ID,), (77,)),
    COUNT: ((NUMBER, COND, *KEY), (2, 0, 1, 2)),
    TOLD: ((), ()),
    LOAD: ((WORDS,), load(6, (9, 1, 1))[1:]),
    CLEAR: ((), ()),
    COULD: ((WORDS,), (6,)),
    DISORDER: ((NUMBER,), (2,)),
    COUNTS: ((), ()),
    KTH: ((NUMBER, (0, 999)), (0, 3)),
    RANK: ((ID,), (24,)),
}

# Where another refusal would be due: numbers in range that are refused otherwise.
REFUSED = {
    WATCH: [((11, 6, 6), -3), ((77, 6, 1), -4)],
    LINK: [((2, 21, 0, 1, 2), -3)],
    MERGE: [((4, 4), -4)],
    CUT: [((4, 4, 1), -4)],
    ARRIVE: [((0, 31, 3, 1, 2), -3)],
    PAIR: [((0, 41, 1, 1, 2), -3)],
    LEAVE: [((77,), -10)],
    LOAD: [(load(5, (9, 1, 0, 7))[1:], -2), (load(5, chains=[0])[1:], -2), (load(5, (9, 1, 1))[1:], -2)],
    KTH: [((0, 4), -6), ((5, 0), -6)],
    RANK: [((77,), -10), ((11,), -10)],
}


def beyond(place, numbers):
    """The same call, once for each number and each step beyond its range."""
    for i, (low, high) in enumerate(CALLS[place][0]):
        for wrong in (low - 1, high + 1, -BIG - 1, BIG + 1, min(-BIG, low - 1), max(BIG, high + 1)):
            yield (place, *numbers[:i], wrong, *numbers[i + 1:])


class Ranges(unittest.TestCase):
    def test_all_calls_are_here(self):
        self.assertEqual(sorted(CALLS), list(range(29)))

    def test_ends_are_in(self):
        for place, (ranges, numbers) in CALLS.items():
            for i, ends in enumerate(ranges):
                for end in ends:
                    call = (place, *numbers[:i], end, *numbers[i + 1:])
                    with self.subTest(call=call):
                        self.assertNotEqual(last(FURNISHED + [call]), [-1])

    def test_one_beyond_is_out_and_changes_nothing(self):
        for place, (ranges, numbers) in CALLS.items():
            for call in beyond(place, numbers):
                with self.subTest(call=call):
                    self.assertTrue(changes_nothing(call, -1))

    def test_out_of_range_goes_before_other_refusals(self):
        for place, cases in REFUSED.items():
            for numbers, refusal in cases:
                self.assertEqual(last(FURNISHED + [(place, *numbers)]), [refusal])
                for call in beyond(place, numbers):
                    with self.subTest(call=call):
                        self.assertTrue(changes_nothing(call, -1))

    def test_a_denominator_of_zero_or_below(self):
        for kd in (0, -1, -BIG):
            for call in ((LINK, 0, 77, 0, 1, kd), (UNLINK, 0, 0, 1, 1, 1, kd), (MOVE, 0, 1, 0, 1, 0, 1, kd, 0),
                         (ARRIVE, 0, 77, 2, 1, kd), (DISSOLVE, 0, 1, kd), (PAIR, 0, 77, 0, 1, kd),
                         (COUNT, 0, 0, 1, kd)):
                with self.subTest(call=call):
                    self.assertTrue(changes_nothing(call, -1))


if __name__ == "__main__":
    unittest.main()

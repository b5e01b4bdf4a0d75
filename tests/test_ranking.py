"""count, disorder, kth and rank."""

import random
import unittest

from support import (BIG, CHAIN, COUNT, DISORDER, FURNISHED, KTH, LEAVE, LINK, MOVE, RANK, REVERSE, ROTATE, SORT,
                     changes_nothing, last, linked, load, part, run)

# Keys 3, 1, 2, 1, 3/2, 1, all on chain 4, in this order.
MIXED = linked(4, [(11, 3, 1), (12, 1, 1), (13, 2, 1), (14, 5, 5), (15, 3, 2), (16, 2, 2)])
# As sort would put them.
SORTED = (12, 14, 16, 15, 13, 11)
NEAR = linked(4, [(11, BIG - 1, BIG), (12, BIG - 2, BIG - 1), (13, -1, BIG), (14, -1, BIG - 1), (15, 0, 9)])


class Count(unittest.TestCase):
    def test_each_condition(self):
        for cond, told in ((0, 6), (1, 3), (2, 0), (3, 3), (4, 3), (5, 3), (6, 6)):
            self.assertEqual(last(MIXED + [(COUNT, 4, cond, 1, 1)]), [told])
        for cond, told in ((0, 6), (1, 1), (2, 3), (3, 2), (4, 5), (5, 4), (6, 3)):
            self.assertEqual(last(MIXED + [(COUNT, 4, cond, 6, 4)]), [told])
        for cond, told in ((0, 6), (1, 0), (2, 6), (3, 0), (4, 6), (5, 6), (6, 0)):
            self.assertEqual(last(MIXED + [(COUNT, 4, cond, BIG, 1)]), [told])

    def test_near_keys(self):
        for cond, told in ((0, 5), (1, 1), (2, 3), (3, 1), (4, 4), (5, 4), (6, 2)):
            self.assertEqual(last(NEAR + [(COUNT, 4, cond, BIG - 2, BIG - 1)]), [told])
        for cond, told in ((1, 1), (2, 1), (3, 3), (4, 4), (5, 2), (6, 4)):
            self.assertEqual(last(NEAR + [(COUNT, 4, cond, -1, BIG)]), [told])

    def test_empty_and_others(self):
        for cond in range(7):
            self.assertEqual(last(MIXED + [(COUNT, 5, cond, 1, 1)]), [0])
            self.assertEqual(last([(COUNT, 0, cond, 0, 1)]), [0])

    def test_behind_changes(self):
        calls = MIXED + [(LEAVE, 12), (LINK, 4, 17, 2, -1, 3), (MOVE, 4, 5, 0, 1, 3, 2, 1, 0)]
        asked = [(COUNT, 4, 5, 1, 1), (COUNT, 4, 0, 1, 1), (COUNT, 5, 3, 2, 1), (COUNT, 4, 2, 0, 1)]
        self.assertEqual(run(calls + asked)[-4:], [[3], [5], [1], [1]])


class Disorder(unittest.TestCase):
    def test_pairs(self):
        self.assertEqual(last(MIXED + [(DISORDER, 4)]), [5 + 3 + 1])
        self.assertEqual(last(FURNISHED + [(DISORDER, 0)]), [3 + 1 + 1])
        self.assertEqual(last(FURNISHED + [(DISORDER, 63)]), [1])

    def test_empty_and_one(self):
        self.assertEqual(last([(DISORDER, 0)]), [0])
        self.assertEqual(last(MIXED + [(DISORDER, 5)]), [0])
        self.assertEqual(last([(LINK, 63, 1, 0, 7, 1), (DISORDER, 63)]), [0])

    def test_equal_keys_are_in_order(self):
        calls = linked(0, [(1, 1, 2), (2, 2, 4), (3, 3, 6), (4, BIG // 2, BIG)]) + [(DISORDER, 0), (REVERSE, 0)]
        self.assertEqual(run(calls + [(DISORDER, 0)])[-3:], [[0], [0, 0], [0]])

    def test_near_keys(self):
        self.assertEqual(last(NEAR + [(DISORDER, 4)]), [4 + 3 + 1])

    def test_sorted_and_reversed(self):
        told = run(MIXED + [(SORT, 4, 0), (DISORDER, 4), (REVERSE, 4), (DISORDER, 4), (ROTATE, 4, 1), (DISORDER, 4)])
        # Of fifteen pairs three are of equal keys.
        self.assertEqual(told[-5::2], [[0], [12], [7]])
        self.assertEqual(last(MIXED + [(SORT, 4, 1), (DISORDER, 4)]), [12])

    def test_a_thousand(self):
        for keys, told in ((range(1000), 0), (range(1000, 0, -1), 499500), ([5] * 1000, 0),
                           ([x % 2 for x in range(1000)], 499 * 500 // 2)):
            call = load(chains=part(0, *[(x + 1, key, 1) for x, key in enumerate(keys)]))
            self.assertEqual(run([call, (DISORDER, 0)]), [[0, 0], [told]])

    def test_beside_all_pairs(self):
        source = random.Random(5)
        for turn in range(20):
            keys = [source.randint(-30, 30) for x in range(source.randint(2, 60))]
            pairs = sum(keys[i] > keys[j] for j in range(len(keys)) for i in range(j))
            calls = linked(9, [(x + 1, key, 7) for x, key in enumerate(keys)])
            self.assertEqual(last(calls + [(DISORDER, 9)]), [pairs])


class Kth(unittest.TestCase):
    def test_each(self):
        told = run(MIXED + [(KTH, 4, k) for k in range(7)])[len(MIXED):]
        self.assertEqual(told, [[12, 1, 1], [14, 1, 1], [16, 1, 1], [15, 3, 2], [13, 2, 1], [11, 3, 1], [-6]])

    def test_no_such_entry(self):
        for k in (0, 1, 999):
            self.assertTrue(changes_nothing((KTH, 5, k), -6))
            self.assertEqual(last([(KTH, 0, k)]), [-6])
        for c, k in ((0, 4), (0, 999), (63, 2)):
            self.assertTrue(changes_nothing((KTH, c, k), -6))

    def test_last_one(self):
        self.assertEqual(last(FURNISHED + [(KTH, 0, 3)]), [21, 3, 1])
        self.assertEqual(last(FURNISHED + [(KTH, 63, 1)]), [25, 5, 1])

    def test_equal_keys_keep_their_order(self):
        calls = linked(0, [(9, 1, 2), (3, 2, 4), (7, 3, 6)])
        for turned, ids in ((calls, (9, 3, 7)), (calls + [(REVERSE, 0)], (7, 3, 9)), (calls + [(ROTATE, 0, 1)], (3, 7, 9))):
            told = run(turned + [(KTH, 0, k) for k in range(3)])[-3:]
            self.assertEqual(told, [[x, 1, 2] for x in ids])

    def test_near_and_negative_keys(self):
        told = run(NEAR + [(KTH, 4, k) for k in range(6)])[-6:]
        self.assertEqual(told, [[14, -1, BIG - 1], [13, -1, BIG], [15, 0, 1], [12, BIG - 2, BIG - 1],
                                [11, BIG - 1, BIG], [-6]])

    def test_as_by_sort(self):
        told = run(MIXED + [(KTH, 4, k) for k in range(6)] + [(CHAIN, 4), (SORT, 4, 0), (CHAIN, 4)])[len(MIXED):]
        self.assertEqual([number for one in told[:6] for number in one], told[-1][1:])
        self.assertEqual(told[6][1::3], [11, 12, 13, 14, 15, 16])

    def test_a_thousand(self):
        full = load(chains=part(3, *[(x, -x, 3) if x % 3 else (x, -x // 3, 1) for x in range(1, 1001)]))
        told = run([full, (KTH, 3, 0), (KTH, 3, 999), (KTH, 3, 500), (LEAVE, 7), (KTH, 3, 999), (KTH, 3, 998)])
        self.assertEqual(told, [[0, 0], [1000, -1000, 3], [1, -1, 3], [500, -500, 3], [0, 0], [-6], [1, -1, 3]])


class Rank(unittest.TestCase):
    def test_each(self):
        told = run(MIXED + [(RANK, x) for x in SORTED])[len(MIXED):]
        self.assertEqual(told, [[k] for k in range(6)])

    def test_each_on_its_own_chain(self):
        told = run(FURNISHED + [(RANK, x) for x in range(21, 27)])[-6:]
        self.assertEqual(told, [[3], [1], [2], [0], [1], [0]])

    def test_nowhere_or_elsewhere(self):
        for x in (1, 77, 10 ** 9, 11, 12, 13, 31, 33, 34, 41, 43, 44):
            self.assertTrue(changes_nothing((RANK, x), -10))
        self.assertEqual(last([(RANK, 1)]), [-10])

    def test_equal_keys_keep_their_order(self):
        calls = linked(0, [(9, 1, 2), (3, 2, 4), (7, 3, 6), (5, 0, 1)])
        for turned, told in ((calls, (1, 2, 3, 0)), (calls + [(REVERSE, 0)], (3, 2, 1, 0)),
                             (calls + [(ROTATE, 0, 1)], (3, 1, 2, 0))):
            self.assertEqual(run(turned + [(RANK, x) for x in (9, 3, 7, 5)])[-4:], [[one] for one in told])

    def test_near_keys(self):
        self.assertEqual(run(NEAR + [(RANK, x) for x in range(11, 16)])[-5:], [[4], [3], [1], [0], [2]])

    def test_off_the_chain(self):
        calls = MIXED + [(RANK, 13), (LEAVE, 12), (RANK, 13), (RANK, 12), (MOVE, 4, 5, 0, 9, 3, 1, 1, 0), (RANK, 13)]
        self.assertEqual([one for one in run(calls)[6:] if len(one) == 1], [[4], [3], [-10], [1]])


if __name__ == "__main__":
    unittest.main()

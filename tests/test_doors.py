"""pair."""

import unittest

from support import BIG, LEAVE, NONE, PAIR, WAITING, changes_nothing, off, run


class Pair(unittest.TestCase):
    def test_two_sides_of_one_key(self):
        for side in (0, 1):
            calls = [(PAIR, 0, 8, side, 1, 2), (PAIR, 0, 3, 1 - side, 2, 4), (LEAVE, 8), (LEAVE, 3)]
            self.assertEqual(run(calls), [[1], off(8, 3), [-10], [-10]])

    def test_same_side_waits(self):
        for side in (0, 1):
            calls = [(PAIR, 0, 8, side, 1, 2), (PAIR, 0, 3, side, 1, 2), (LEAVE, 8), (LEAVE, 3)]
            self.assertEqual(run(calls), [[1], [1], NONE, NONE])

    def test_the_first_of_several_equal_ones(self):
        calls = [(PAIR, 0, 9, 0, 1, 2), (PAIR, 0, 4, 0, 2, 4), (PAIR, 0, 6, 0, 3, 6), (PAIR, 0, 11, 1, 1, 2),
                 (PAIR, 0, 12, 1, 1, 2), (PAIR, 0, 13, 1, 1, 2), (PAIR, 0, 14, 1, 1, 2), (PAIR, 0, 15, 0, 1, 2)]
        self.assertEqual(run(calls)[3:], [off(9, 11), off(4, 12), off(6, 13), [1], off(14, 15)])

    def test_first_by_arrival_when_one_left(self):
        calls = [(PAIR, 0, 9, 0, 1, 2), (PAIR, 0, 4, 0, 1, 2), (LEAVE, 9), (PAIR, 0, 9, 0, 1, 2), (PAIR, 0, 1, 1, 1, 2),
                 (PAIR, 0, 2, 1, 1, 2)]
        self.assertEqual(run(calls)[4:], [off(4, 1), off(9, 2)])

    def test_other_keys_and_doors_do_not_pair(self):
        calls = [(PAIR, 0, 1, 0, 1, 2), (PAIR, 0, 2, 1, 1, 3), (PAIR, 63, 3, 1, 1, 2), (PAIR, 0, 4, 1, -1, 2),
                 (PAIR, 0, 5, 0, -2, 4), (PAIR, 63, 6, 0, 1, 2), (PAIR, 0, 7, 0, 1, 3), (PAIR, 0, 8, 1, 1, 2)]
        self.assertEqual(run(calls), [[1]] * 4 + [off(4, 5), off(3, 6), off(2, 7), off(1, 8)])

    def test_equal_and_near_keys(self):
        for (a, b), (c, d) in (((0, BIG), (0, 1)), ((BIG, BIG), (1, 1)), ((-BIG, BIG // 2), (-2, 1))):
            self.assertEqual(run([(PAIR, 5, 1, 0, a, b), (PAIR, 5, 2, 1, c, d)]), [[1], off(1, 2)])
        for (a, b), (c, d) in (((BIG - 1, BIG), (BIG - 2, BIG - 1)), ((-1, BIG), (0, 1)), ((1, BIG), (1, BIG - 1))):
            self.assertEqual(run([(PAIR, 5, 1, 0, a, b), (PAIR, 5, 2, 1, c, d)]), [[1], [1]])

    def test_waits_already(self):
        for x in WAITING:
            for d, side in ((0, 0), (0, 1), (1, 1)):
                self.assertTrue(changes_nothing((PAIR, d, x, side, 1, 2), -3))

    def test_set_off_may_wait_again(self):
        calls = [(PAIR, 0, 1, 0, 0, 1), (PAIR, 0, 2, 1, 0, 1), (PAIR, 1, 2, 1, 0, 1), (PAIR, 1, 1, 0, 0, 1)]
        self.assertEqual(run(calls), [[1], off(1, 2), [1], off(2, 1)])

    def test_room_for_a_thousand(self):
        # Filled call by call, by more calls than a list may have; test_full.py stays within them.
        full = [(PAIR, 2, x, x % 2, x, 1) for x in range(1, 1001)]
        after = [(PAIR, 2, 2001, 0, 5000, 1), (PAIR, 2, 2001, 1, 7, 1), (LEAVE, 2001), (PAIR, 3, 2001, 0, 1, 1),
                 (PAIR, 2, 8, 1, 9, 1), (PAIR, 2, 2002, 0, 7, 1), (PAIR, 2, 2003, 0, 7, 1), (PAIR, 2, 2004, 0, 7, 1)]
        told = run(full + after)
        self.assertEqual(told[:1000], [[1]] * 1000)
        self.assertEqual(told[1000:], [[-5], [-5], [-10], [1], [-3], off(7, 2002), [1], [-5]])


if __name__ == "__main__":
    unittest.main()

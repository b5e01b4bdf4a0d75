"""sort, rotate, reverse, merge and cut."""

import unittest

from support import (BIG, CUT, LEAVE, LINK, MERGE, NONE, REVERSE, ROTATE, SORT, UNLINK, changes_nothing, empty_chain,
                     last, linked, order_of, off, run)

MIXED = linked(0, [(1, 2, 2), (2, 3, 1), (3, 4, 2), (4, 9, 3), (5, 1, 1), (6, 2, 1)])


class Sort(unittest.TestCase):
    def test_equal_keys_keep_their_order(self):
        self.assertEqual(last(MIXED + [(SORT, 0, 0)]), NONE)
        self.assertEqual(last(MIXED + [(SORT, 0, 1)]), NONE)
        self.assertEqual(order_of(MIXED + [(SORT, 0, 0)], 0), [1, 5, 3, 6, 2, 4])
        self.assertEqual(order_of(MIXED + [(SORT, 0, 1)], 0), [2, 4, 3, 6, 1, 5])

    def test_by_worth_not_by_numbers(self):
        keys = [(1, 3), (1, 2), (-1, 2), (-1, 3), (0, 9), (2, 3), (-BIG, 1), (BIG, 1), (-1, BIG), (1, BIG)]
        chain = linked(3, [(i + 1, kn, kd) for i, (kn, kd) in enumerate(keys)])
        rising = [7, 3, 4, 9, 5, 10, 1, 2, 6, 8]
        self.assertEqual(order_of(chain + [(SORT, 3, 0)], 3), rising)
        self.assertEqual(order_of(chain + [(SORT, 3, 1)], 3), rising[::-1])

    def test_keys_that_hardly_differ(self):
        chain = linked(3, [(1, BIG - 1, BIG), (2, BIG - 2, BIG - 1), (3, 1 - BIG, BIG), (4, 2 - BIG, BIG - 1)])
        self.assertEqual(order_of(chain + [(SORT, 3, 0)], 3), [3, 4, 2, 1])
        self.assertEqual(order_of(chain + [(SORT, 3, 1)], 3), [1, 2, 4, 3])

    def test_empty_and_others(self):
        self.assertEqual(run([(SORT, 0, 0), (SORT, 63, 1)]), [NONE, NONE])
        self.assertEqual(order_of(MIXED + [(SORT, 1, 0)], 0), [1, 2, 3, 4, 5, 6])


class Rotate(unittest.TestCase):
    def test_n_times(self):
        for n in (0, 1, 2, 5, 6, 7, 12, 999999996, 10 ** 9):
            ids = [(i + n) % 6 + 1 for i in range(6)]
            self.assertEqual(run(MIXED + [(ROTATE, 0, n), empty_chain(0)])[-2:], [NONE, off(*ids)])

    def test_empty_and_one(self):
        for n in (0, 1, 10 ** 9):
            self.assertEqual(run([(ROTATE, 0, n), empty_chain(0)]), [NONE, NONE])
            self.assertEqual(run([(LINK, 0, 1, 0, 0, 1), (ROTATE, 0, n), empty_chain(0)])[1:], [NONE, off(1)])

    def test_after_somebody_left(self):
        self.assertEqual(order_of(MIXED + [(LEAVE, 2), (ROTATE, 0, 3)], 0), [5, 6, 1, 3, 4])

    def test_others_stay(self):
        self.assertEqual(order_of(MIXED + [(ROTATE, 1, 3)], 0), [1, 2, 3, 4, 5, 6])


class Reverse(unittest.TestCase):
    def test_reverse(self):
        self.assertEqual(run(MIXED + [(REVERSE, 0), empty_chain(0)])[-2:], [NONE, off(6, 5, 4, 3, 2, 1)])
        self.assertEqual(order_of(MIXED + [(REVERSE, 0), (REVERSE, 0)], 0), [1, 2, 3, 4, 5, 6])

    def test_empty_and_others(self):
        self.assertEqual(run([(REVERSE, 63)]), [NONE])
        self.assertEqual(order_of(MIXED + [(REVERSE, 1)], 0), [1, 2, 3, 4, 5, 6])

    def test_keys_go_along(self):
        self.assertEqual(last(MIXED + [(REVERSE, 0), (UNLINK, 0, 0, 9, 1, 3, 1)]), off(4, 2))


class Merge(unittest.TestCase):
    def test_sorted_chains(self):
        calls = linked(0, [(1, 1, 1), (2, 2, 1), (3, 3, 1)]) + linked(1, [(11, 1, 1), (12, 5, 2), (13, 6, 2), (14, 9, 1)])
        told = run(calls + [(MERGE, 0, 1), empty_chain(1), empty_chain(0)])[-3:]
        self.assertEqual(told, [NONE, NONE, off(1, 11, 2, 12, 3, 13, 14)])
        told = run(calls + [(MERGE, 1, 0), empty_chain(0), empty_chain(1)])[-3:]
        self.assertEqual(told, [NONE, NONE, off(11, 1, 2, 12, 13, 3, 14)])

    def test_chains_that_are_not_sorted(self):
        there = linked(1, [(11, 2, 1), (12, 1, 2), (13, 9, 1), (14, 0, 1)])
        self.assertEqual(order_of(MIXED + there + [(MERGE, 0, 1)], 0), [1, 11, 12, 2, 3, 4, 5, 6, 13, 14])

    def test_negative_and_near_keys(self):
        calls = linked(0, [(1, -1, 2), (2, BIG - 1, BIG)]) + linked(1, [(11, -1, 3), (12, BIG - 2, BIG - 1)])
        self.assertEqual(order_of(calls + [(MERGE, 0, 1)], 0), [1, 11, 12, 2])

    def test_one_or_both_empty(self):
        self.assertEqual(order_of(MIXED + [(MERGE, 0, 1)], 0), [1, 2, 3, 4, 5, 6])
        self.assertEqual(order_of(MIXED + [(MERGE, 1, 0)], 1), [1, 2, 3, 4, 5, 6])
        self.assertEqual(run(MIXED + [(MERGE, 1, 0), empty_chain(0)])[-1], NONE)
        self.assertEqual(run([(MERGE, 5, 6), empty_chain(5)]), [NONE, NONE])

    def test_same_chain(self):
        for c in (0, 1, 63):
            self.assertTrue(changes_nothing((MERGE, c, c), -4))

    def test_room_for_a_thousand(self):
        calls = [(LINK, 4, x, 0, 0, 1) for x in range(1, 998)] + linked(5, [(2001, 1, 1), (2002, 2, 1), (2003, 3, 1)])
        more = calls + [(LINK, 5, 2004, 0, 4, 1)]
        ids = list(range(1, 998)) + [2001, 2002, 2003]
        self.assertEqual(run(calls + [(MERGE, 4, 5), empty_chain(4)])[-2:], [NONE, off(*ids)])
        for c, d in ((4, 5), (5, 4)):
            told = run(more + [(MERGE, c, d), empty_chain(4), empty_chain(5)])[-3:]
            self.assertEqual(told, [[-5], off(*ids[:997]), off(2001, 2002, 2003, 2004)])
        self.assertEqual(last(more + [(MERGE, 4, 4)]), [-4])


class Cut(unittest.TestCase):
    def test_all_but_the_first_n(self):
        there = linked(1, [(11, 0, 1), (12, 9, 1)])
        for n in (0, 1, 3, 5, 6, 7, 1000):
            told = run(MIXED + there + [(CUT, 0, 1, n), empty_chain(0), empty_chain(1)])[-3:]
            ids = [1, 2, 3, 4, 5, 6]
            self.assertEqual(told, [NONE, off(*ids[:n]), off(11, 12, *ids[n:])])

    def test_empty(self):
        self.assertEqual(run([(CUT, 0, 63, 0), (CUT, 0, 63, 1000), empty_chain(63)]), [NONE, NONE, NONE])

    def test_they_wait_still(self):
        told = run(MIXED + [(CUT, 0, 1, 3), (LINK, 2, 5, 0, 0, 1), (LEAVE, 5), empty_chain(1)])[-4:]
        self.assertEqual(told, [NONE, [-3], NONE, off(4, 6)])

    def test_same_chain(self):
        for c in (0, 1, 63):
            for n in (0, 2, 1000):
                self.assertTrue(changes_nothing((CUT, c, c, n), -4))

    def test_room_for_a_thousand(self):
        calls = [(LINK, 4, x, 0, 0, 1) for x in range(1, 999)] + linked(5, [(2001, 1, 1), (2002, 2, 1), (2003, 3, 1)])
        told = run(calls + [(CUT, 5, 4, 0), (CUT, 5, 4, 1), (CUT, 5, 4, 0), (CUT, 5, 4, 1), empty_chain(5),
                            empty_chain(4)])[-6:]
        ids = list(range(1, 999)) + [2002, 2003]
        self.assertEqual(told, [[-5], NONE, [-5], NONE, off(2001), off(*ids)])
        self.assertEqual(last(calls + [(CUT, 4, 4, 0)]), [-4])
        self.assertEqual(run(calls + [(CUT, 4, 6, 0), empty_chain(6)])[-2:], [NONE, off(*range(1, 999))])


if __name__ == "__main__":
    unittest.main()

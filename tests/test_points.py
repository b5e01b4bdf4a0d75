"""arrive and dissolve."""

import unittest

from support import (ARRIVE, BIG, DISSOLVE, FURNISHED, LEAVE, NONE, WAITING, changes_nothing, last, off, run)


class Arrive(unittest.TestCase):
    def test_the_last_one_needed_sets_all_off(self):
        calls = [(ARRIVE, 3, 9, 3, 1, 2), (ARRIVE, 3, 4, 3, 2, 4), (ARRIVE, 3, 7, 3, 3, 6), (LEAVE, 9), (LEAVE, 7)]
        self.assertEqual(run(calls), [[1], [1], off(9, 4, 7), [-10], [-10]])

    def test_one_is_enough(self):
        self.assertEqual(run([(ARRIVE, 0, 9, 1, 0, 1), (LEAVE, 9)]), [off(9), [-10]])

    def test_the_first_guests_need_counts(self):
        for n in (1, 2, 3, 1000):
            calls = [(ARRIVE, 0, 1, 3, 5, 1), (ARRIVE, 0, 2, n, 5, 1), (ARRIVE, 0, 3, n, 5, 1)]
            self.assertEqual(run(calls), [[1], [1], off(1, 2, 3)])

    def test_the_need_stays_when_the_first_leaves(self):
        calls = [(ARRIVE, 0, 1, 3, 5, 1), (ARRIVE, 0, 2, 9, 5, 1), (LEAVE, 1), (ARRIVE, 0, 3, 2, 5, 1),
                 (ARRIVE, 0, 4, 2, 5, 1)]
        self.assertEqual(run(calls), [[1], [1], NONE, [1], off(2, 3, 4)])

    def test_the_need_is_gone_with_the_last_guest(self):
        one = (ARRIVE, 0, 1, 3, 5, 1)
        anew = [(ARRIVE, 0, 3, 2, 5, 1), (ARRIVE, 0, 4, 9, 5, 1)]
        self.assertEqual(run([one, (LEAVE, 1)] + anew)[2:], [[1], off(3, 4)])
        self.assertEqual(run([one, (DISSOLVE, 0, 5, 1)] + anew)[2:], [[1], off(3, 4)])
        self.assertEqual(run([one, (ARRIVE, 0, 7, 3, 5, 1), (ARRIVE, 0, 8, 3, 5, 1)] + anew)[3:], [[1], off(3, 4)])
        calls = [one, (ARRIVE, 0, 2, 9, 5, 1), (LEAVE, 2), (LEAVE, 1)] + anew
        self.assertEqual(run(calls)[4:], [[1], off(3, 4)])

    def test_groups_and_points_are_apart(self):
        calls = [(ARRIVE, 0, 1, 2, 1, 2), (ARRIVE, 0, 2, 3, 1, 3), (ARRIVE, 63, 3, 2, 1, 2), (ARRIVE, 0, 4, 2, -1, 2),
                 (ARRIVE, 0, 5, 2, 2, 6), (ARRIVE, 0, 6, 9, 4, 8), (ARRIVE, 0, 7, 9, 1, 3), (ARRIVE, 63, 8, 9, 1, 2),
                 (ARRIVE, 0, 9, 9, -2, 4)]
        self.assertEqual(run(calls), [[1]] * 5 + [off(1, 6), off(2, 5, 7), off(3, 8), off(4, 9)])

    def test_equal_and_near_keys(self):
        zero = [(ARRIVE, 0, 1, 2, 0, BIG), (ARRIVE, 0, 2, 2, 0, 1)]
        self.assertEqual(last(zero), off(1, 2))
        whole = [(ARRIVE, 0, 1, 2, -BIG, BIG), (ARRIVE, 0, 2, 2, -1, 1)]
        self.assertEqual(last(whole), off(1, 2))
        near = [(ARRIVE, 0, 1, 2, BIG - 1, BIG), (ARRIVE, 0, 2, 2, BIG - 2, BIG - 1), (ARRIVE, 0, 3, 2, BIG - 1, BIG)]
        self.assertEqual(run(near), [[1], [1], off(1, 3)])
        below = [(ARRIVE, 0, 1, 2, -1, BIG), (ARRIVE, 0, 2, 2, -1, BIG - 1), (ARRIVE, 0, 3, 2, 0, 1)]
        self.assertEqual(run(below), [[1], [1], [1]])

    def test_waits_already(self):
        for x in WAITING:
            for m, n in ((0, 2), (0, 1), (5, 1)):
                self.assertTrue(changes_nothing((ARRIVE, m, x, n, 1, 2), -3))

    def test_set_off_may_wait_again(self):
        calls = [(ARRIVE, 0, 1, 2, 0, 1), (ARRIVE, 0, 2, 2, 0, 1), (ARRIVE, 0, 2, 3, 0, 1), (ARRIVE, 0, 1, 2, 0, 1),
                 (ARRIVE, 0, 3, 2, 0, 1)]
        self.assertEqual(run(calls), [[1], off(1, 2), [1], [1], off(2, 1, 3)])

    def test_room_for_a_thousand(self):
        # Filled call by call, by more calls than a list may have; test_full.py stays within them.
        full = [(ARRIVE, 2, x, 1000, 1, 1) for x in range(1, 1000)] + [(ARRIVE, 2, 1000, 3, 2, 1)]
        after = [(ARRIVE, 2, 2001, 9, 3, 1), (ARRIVE, 2, 2001, 9, 2, 1), (ARRIVE, 2, 2001, 1, 3, 1),
                 (ARRIVE, 2, 1000, 9, 3, 1), (ARRIVE, 3, 2001, 9, 3, 1), (ARRIVE, 2, 2002, 5, 1, 1),
                 (ARRIVE, 2, 2003, 9, 2, 1), (ARRIVE, 2, 2004, 9, 2, 1)]
        told = run(full + after)
        self.assertEqual(told[:1000], [[1]] * 1000)
        self.assertEqual(
            told[1000:],
            [[-5], [-5], off(2001), [-3], [1], off(*range(1, 1000), 2002), [1], off(1000, 2003, 2004)])

    def test_refused_for_room_changes_nothing(self):
        full = [(ARRIVE, 2, x, 1000, x, 1) for x in range(1, 1001)]
        after = [(ARRIVE, 2, 2001, 5, 5000, 1), (LEAVE, 2001), (DISSOLVE, 2, 5000, 1), (DISSOLVE, 2, 7, 1),
                 (ARRIVE, 2, 2001, 2, 5000, 1), (ARRIVE, 2, 2002, 9, 5000, 1)]
        self.assertEqual(run(full + after)[1000:], [[-5], [-10], NONE, off(7), [1], off(2001, 2002)])


class Dissolve(unittest.TestCase):
    def test_the_group_in_order_of_arrival(self):
        calls = [(ARRIVE, 0, 9, 9, 1, 2), (ARRIVE, 0, 1, 9, 1, 3), (ARRIVE, 0, 5, 9, 2, 4), (ARRIVE, 0, 7, 9, 1, 2),
                 (DISSOLVE, 0, 3, 6), (DISSOLVE, 0, 1, 2), (DISSOLVE, 0, 1, 3), (LEAVE, 9)]
        self.assertEqual(run(calls)[4:], [off(9, 5, 7), NONE, off(1), [-10]])

    def test_nobody(self):
        self.assertEqual(last([(DISSOLVE, 0, 0, 1)]), NONE)
        self.assertEqual(last(FURNISHED + [(DISSOLVE, 0, 1, 3)]), NONE)
        self.assertEqual(last(FURNISHED + [(DISSOLVE, 1, 1, 2)]), NONE)

    def test_other_points_and_groups_stay(self):
        told = run(FURNISHED + [(DISSOLVE, 0, 1, 2), (DISSOLVE, 63, 1, 2), (DISSOLVE, 0, 7, 1)])[-3:]
        self.assertEqual(told, [off(31, 32), off(34), off(33)])

    def test_negative_zero_and_near_keys(self):
        calls = [(ARRIVE, 0, 1, 9, 0, 5), (ARRIVE, 0, 2, 9, -1, BIG), (ARRIVE, 0, 3, 9, -1, BIG - 1),
                 (DISSOLVE, 0, 0, BIG), (DISSOLVE, 0, -1, BIG - 1), (DISSOLVE, 0, -1, BIG)]
        self.assertEqual(run(calls)[3:], [off(1), off(3), off(2)])


if __name__ == "__main__":
    unittest.main()

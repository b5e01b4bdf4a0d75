"""link, unlink and move: orders, conditions, directions."""

import unittest

from support import (BIG, FURNISHED, LEAVE, LINK, MOVE, NONE, SORT, UNLINK, WAITING, changes_nothing, empty_chain,
                     last, linked, off, order_of, run)

# A chain that isn't sorted, with equal keys written differently: 1, 3, 2, 3, 1, 2.
MIXED = linked(0, [(1, 2, 2), (2, 3, 1), (3, 4, 2), (4, 9, 3), (5, 1, 1), (6, 2, 1)])


class Link(unittest.TestCase):
    def test_each_order_by_the_key(self):
        # At which place 9 comes to stand, by order, for keys below, between, at and above the chain's.
        cases = {
            (0, 1): (6, 0, 0, 0, 6, 6),
            (1, 2): (6, 0, 0, 0, 6, 6),
            (2, 2): (6, 0, 1, 0, 6, 0),
            (3, 2): (6, 0, 1, 1, 0, 0),
            (6, 3): (6, 0, 1, 1, 0, 0),
            (5, 2): (6, 0, 1, 1, 0, 0),
            (6, 2): (6, 0, 6, 1, 0, 0),
            (7, 2): (6, 0, 6, 6, 0, 0),
            (-7, 2): (6, 0, 0, 0, 6, 6),
        }
        for (kn, kd), spots in cases.items():
            for order, spot in enumerate(spots):
                with self.subTest(kn=kn, kd=kd, order=order):
                    found = order_of(MIXED + [(LINK, 0, 9, order, kn, kd)], 0)
                    self.assertEqual(found.index(9), spot)
                    self.assertEqual([x for x in found if x != 9], [1, 2, 3, 4, 5, 6])

    def test_falling_chain(self):
        chain = linked(7, [(1, 3, 1), (2, 2, 1), (3, 2, 1), (4, 1, 1)])
        for order, ids in ((2, [9, 1, 2, 3, 4]), (3, [9, 1, 2, 3, 4]), (4, [1, 2, 3, 9, 4]), (5, [1, 9, 2, 3, 4])):
            self.assertEqual(order_of(chain + [(LINK, 7, 9, order, 4, 2)], 7), ids)

    def test_the_first_such_entry_far_in_front(self):
        rise = [(i + 1, kn, 1) for i, kn in enumerate((1, 9, 2, 3, 4, 5, 6, 7, 8))]
        fall = [(x, -kn, kd) for x, kn, kd in rise]
        for entries, sign, orders in ((rise, 1, (2, 3)), (fall, -1, (4, 5))):
            for kn in (3, 5, 6, 8):
                for order in orders:
                    found = order_of(linked(0, entries) + [(LINK, 0, 77, order, sign * kn, 1)], 0)
                    self.assertEqual(found, [1, 77, 2, 3, 4, 5, 6, 7, 8, 9])

    def test_empty_chain(self):
        for order in range(6):
            self.assertEqual(run([(LINK, 5, 9, order, -3, 7), empty_chain(5)]), [[1], off(9)])

    def test_keys_as_large_as_may_be(self):
        # Neighbours that differ by one part in 10**36 only.
        keys = [(-BIG, 1), (-BIG, BIG), (-1, BIG - 1), (-1, BIG), (0, BIG), (1, BIG), (1, BIG - 1),
                (BIG - 2, BIG - 1), (BIG - 1, BIG), (BIG, BIG), (BIG, BIG - 1), (BIG - 1, BIG - 2), (BIG, 1)]
        for order, ids in ((2, range(1, 14)), (3, range(1, 14)), (4, range(13, 0, -1)), (5, range(13, 0, -1))):
            for mixed in (1, 2, 3, 5, 8, 11):
                entries = [(i * mixed % 13 + 1, *keys[i * mixed % 13]) for i in range(13)]
                self.assertEqual(order_of(linked(0, entries, order), 0), list(ids))

    def test_equal_keys_written_differently(self):
        for pair in (((0, 1), (0, BIG)), ((1, 2), (BIG // 2, BIG)), ((-3, 9), (-1, 3)), ((BIG, BIG), (1, 1))):
            (a, b), (c, d) = pair
            for order, ids in ((2, [1, 2]), (3, [2, 1]), (4, [1, 2]), (5, [2, 1])):
                self.assertEqual(order_of([(LINK, 0, 1, 0, a, b), (LINK, 0, 2, order, c, d)], 0), ids)
                self.assertEqual(order_of([(LINK, 0, 1, 0, c, d), (LINK, 0, 2, order, a, b)], 0), ids)

    def test_chains_are_apart(self):
        calls = [(LINK, c, c + 1, 0, 0, 1) for c in range(64)]
        self.assertEqual(run(calls + [empty_chain(c) for c in range(64)])[64:], [off(c + 1) for c in range(64)])

    def test_waits_already(self):
        for x in WAITING:
            for c in (0, 1):
                self.assertTrue(changes_nothing((LINK, c, x, 1, 0, 1), -3))

    def test_room_for_a_thousand(self):
        # Filled call by call, by more calls than a list may have; test_full.py stays within them.
        full = [(LINK, 4, x, 0, x, 1) for x in range(1, 1001)]
        after = [(LINK, 4, 1001, 2, 1, 2), (LINK, 4, 1, 0, 1, 1), (LINK, 5, 1001, 0, 1, 1), (LEAVE, 1001),
                 (LEAVE, 3), (LINK, 4, 1001, 1, 1, 1), (LINK, 4, 3, 1, 1, 1), empty_chain(4)]
        told = run(full + after)
        self.assertEqual(told[:1000], [[1]] * 1000)
        ids = [1001] + [x for x in range(1, 1001) if x != 3]
        self.assertEqual(told[1000:], [[-5], [-3], [1], NONE, NONE, [1], [-5], off(*ids)])


class Unlink(unittest.TestCase):
    def test_each_condition_both_ways(self):
        holding = {
            0: [1, 2, 3, 4, 5, 6], 1: [3, 6], 2: [1, 5], 3: [2, 4], 4: [1, 2, 4, 5], 5: [1, 3, 5, 6], 6: [2, 3, 4, 6]}
        for cond, ids in holding.items():
            for n in (1, 2, 3, 999, 1000):
                for back, met in ((0, ids[:n]), (1, ids[::-1][:n])):
                    with self.subTest(cond=cond, n=n, back=back):
                        told = run(MIXED + [(UNLINK, 0, back, n, cond, 4, 2), empty_chain(0)])[-2:]
                        rest = [x for x in range(1, 7) if x not in met]
                        self.assertEqual(told, [off(*met), off(*rest)])

    def test_key_does_not_matter_for_any(self):
        for kn, kd in ((BIG, 1), (-BIG, 1), (0, BIG), (1, 3)):
            self.assertEqual(last(MIXED + [(UNLINK, 0, 1, 3, 0, kn, kd)]), off(6, 5, 4))

    def test_conditions_on_near_keys(self):
        near = linked(0, [(1, BIG - 2, BIG - 1), (2, BIG - 1, BIG), (3, 1 - BIG, BIG), (4, 2 - BIG, BIG - 1)])
        for cond, ids in ((1, [2]), (2, [1, 3, 4]), (3, []), (4, [1, 3, 4]), (5, [1, 2, 3, 4]), (6, [2])):
            self.assertEqual(last(near + [(UNLINK, 0, 0, 9, cond, BIG - 1, BIG)]), off(*ids))
        for cond, ids in ((1, [4]), (2, [3]), (3, [1, 2]), (4, [1, 2, 3]), (5, [3, 4]), (6, [1, 2, 4])):
            self.assertEqual(last(near + [(UNLINK, 0, 0, 9, cond, 2 - BIG, BIG - 1)]), off(*ids))

    def test_zero_and_negative_keys(self):
        chain = linked(0, [(1, 0, 7), (2, -1, 2), (3, -2, 4), (4, 1, 2), (5, 0, 1)])
        for kn, kd, cond, ids in (
                (0, 3, 1, [1, 5]), (-3, 6, 1, [2, 3]), (0, 1, 2, [2, 3]), (0, 1, 3, [4]), (-1, 2, 6, [1, 2, 3, 4, 5]),
                (-1, 2, 5, [2, 3]), (-1, 3, 2, [2, 3]), (-1, 2, 4, [1, 4, 5])):
            self.assertEqual(last(chain + [(UNLINK, 0, 0, 9, cond, kn, kd)]), off(*ids))

    def test_empty_and_nobody(self):
        self.assertEqual(last([(UNLINK, 0, 0, 1, 0, 0, 1)]), NONE)
        self.assertEqual(run(MIXED + [(UNLINK, 0, 1, 9, 3, 9, 1), empty_chain(0)])[-2:], [NONE, off(1, 2, 3, 4, 5, 6)])

    def test_other_chains_stay(self):
        calls = FURNISHED + [(UNLINK, 63, 0, 1000, 0, 0, 1), empty_chain(0)]
        self.assertEqual(run(calls)[-2:], [off(25, 26), off(21, 22, 23, 24)])

    def test_set_off_may_wait_again(self):
        calls = [(LINK, 0, 1, 0, 0, 1), empty_chain(0), (LEAVE, 1), (LINK, 1, 1, 0, 0, 1), empty_chain(1)]
        self.assertEqual(run(calls), [[1], off(1), [-10], [1], off(1)])


class Move(unittest.TestCase):
    def test_ids_in_the_order_met_and_they_wait_still(self):
        for back, met in ((0, [2, 4]), (1, [4, 2])):
            calls = MIXED + [(MOVE, 0, 1, back, 5, 3, 2, 1, 0), (LINK, 2, 2, 0, 0, 1), empty_chain(0), empty_chain(1)]
            self.assertEqual(run(calls)[-4:], [off(*met), [-3], off(1, 3, 5, 6), off(*met)])

    def test_each_order_on_another_chain(self):
        there = linked(1, [(11, 2, 1), (12, 1, 1), (13, 3, 1)])
        for order, ids in (
                (0, [11, 12, 13, 1, 2, 3]), (1, [3, 2, 1, 11, 12, 13]), (2, [1, 11, 12, 3, 13, 2]),
                (3, [1, 3, 11, 12, 2, 13]), (4, [2, 11, 3, 12, 13, 1]), (5, [2, 3, 11, 1, 12, 13])):
            with self.subTest(order=order):
                self.assertEqual(order_of(MIXED + there + [(MOVE, 0, 1, 0, 3, 0, 0, 1, order)], 1), ids)

    def test_the_order_of_going_counts(self):
        # Equal keys: by 2 and 4 those met later stand behind, by 1, 3 and 5 in front.
        equal = linked(0, [(1, 1, 1), (2, 2, 2), (3, 3, 3)])
        for back, met in ((0, [1, 2, 3]), (1, [3, 2, 1])):
            for order in range(6):
                ids = met[::-1] if order in (1, 3, 5) else met
                self.assertEqual(order_of(equal + [(MOVE, 0, 1, back, 9, 0, 0, 1, order)], 1), ids)
                self.assertEqual(order_of(equal + [(MOVE, 0, 0, back, 9, 0, 0, 1, order)], 0), ids)

    def test_onto_itself(self):
        for back, n, cond, order, met, ids in (
                (0, 2, 0, 0, [1, 2], [3, 4, 5, 6, 1, 2]),
                (1, 2, 0, 0, [6, 5], [1, 2, 3, 4, 6, 5]),
                (0, 2, 1, 1, [3, 6], [6, 3, 1, 2, 4, 5]),
                (0, 9, 1, 2, [3, 6], [1, 3, 6, 2, 4, 5]),
                (0, 9, 1, 3, [3, 6], [1, 6, 3, 2, 4, 5]),
                (0, 9, 1, 4, [3, 6], [3, 6, 1, 2, 4, 5]),
                (1, 9, 4, 5, [5, 4, 2, 1], [2, 4, 3, 6, 1, 5]),
                (1, 1, 3, 4, [4], [4, 1, 2, 3, 5, 6])):
            with self.subTest(back=back, n=n, cond=cond, order=order):
                told = run(MIXED + [(MOVE, 0, 0, back, n, cond, 2, 1, order), empty_chain(0)])[-2:]
                self.assertEqual(told, [off(*met), off(*ids)])

    def test_all_by_key_sorts(self):
        for order, falling in ((2, 0), (4, 1)):
            moved = order_of(MIXED + [(MOVE, 0, 0, 0, 1000, 0, 0, 1, order)], 0)
            self.assertEqual(moved, order_of(MIXED + [(SORT, 0, falling)], 0))

    def test_keeps_the_key_that_it_has(self):
        calls = MIXED + [(MOVE, 0, 1, 0, 9, 0, 77, 1, 0), (UNLINK, 1, 0, 9, 1, 3, 1), (UNLINK, 1, 0, 9, 1, 77, 1)]
        self.assertEqual(run(calls)[-2:], [off(2, 4), NONE])

    def test_nobody_met(self):
        self.assertEqual(run(MIXED + [(MOVE, 0, 1, 0, 9, 3, 9, 1, 0), empty_chain(1)])[-2:], [NONE, NONE])
        self.assertEqual(last([(MOVE, 8, 9, 0, 1, 0, 0, 1, 2)]), NONE)
        self.assertEqual(last([(MOVE, 8, 8, 1, 1, 0, 0, 1, 5)]), NONE)

    def test_leave_after_a_move(self):
        calls = MIXED + [(MOVE, 0, 1, 0, 2, 0, 0, 1, 0), (LEAVE, 1), (LEAVE, 1), empty_chain(1)]
        self.assertEqual(run(calls)[-3:], [NONE, [-10], off(2)])


class MoveRoom(unittest.TestCase):
    def setUp(self):
        self.almost = [(LINK, 4, x, 0, x, 1) for x in range(1, 999)]
        self.others = linked(5, [(2001, 5, 1), (2002, 6, 1), (2003, 7, 1)])

    def test_a_thousand_and_no_more(self):
        calls = self.almost + self.others + [
            (MOVE, 5, 4, 0, 3, 0, 0, 1, 0), (MOVE, 5, 4, 0, 1000, 0, 0, 1, 1), (MOVE, 5, 4, 1, 2, 0, 0, 1, 1),
            (MOVE, 5, 4, 0, 1, 0, 0, 1, 0), empty_chain(5), empty_chain(4)]
        told = run(calls)[-6:]
        ids = [2002, 2003] + list(range(1, 999))
        self.assertEqual(told, [[-5], [-5], off(2003, 2002), [-5], off(2001), off(*ids)])

    def test_full_but_nobody_comes(self):
        calls = self.almost + self.others + [(MOVE, 5, 4, 0, 2, 0, 0, 1, 0), (MOVE, 5, 4, 0, 9, 3, 99, 1, 0)]
        self.assertEqual(run(calls)[-2:], [off(2001, 2002), NONE])

    def test_full_onto_itself(self):
        calls = self.almost + self.others + [(MOVE, 5, 4, 0, 2, 0, 0, 1, 0), (MOVE, 4, 4, 1, 1000, 0, 0, 1, 2)]
        met = [2002, 2001] + list(range(998, 0, -1))
        told = run(calls + [empty_chain(4)])[-2:]
        ids = list(range(1, 5)) + [2001, 5, 2002] + list(range(6, 999))
        self.assertEqual(told, [off(*met), off(*ids)])

    def test_full_onto_another(self):
        calls = self.almost + self.others + [(MOVE, 5, 4, 0, 2, 0, 0, 1, 0), (MOVE, 4, 6, 0, 1000, 0, 0, 1, 1)]
        met = list(range(1, 999)) + [2001, 2002]
        self.assertEqual(run(calls + [empty_chain(6)])[-2:], [off(*met), off(*met[::-1])])


if __name__ == "__main__":
    unittest.main()

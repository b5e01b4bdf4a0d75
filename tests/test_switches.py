"""put, set and watch."""

import unittest

from support import PUT, SET, WATCH, LEAVE, NONE, WAITING, WORD, FURNISHED, changes_nothing, last, off, run


class Put(unittest.TestCase):
    def test_nobody_watches(self):
        self.assertEqual(run([(PUT, 0), (PUT, WORD), (PUT, 1)]), [NONE] * 3)

    def test_those_that_stand_go_in_order_of_arrival(self):
        calls = [(WATCH, 9, 1, 1), (WATCH, 3, 2, 2), (WATCH, 7, 3, 1), (WATCH, 1, 1, 1), (PUT, 1), (PUT, 2), (PUT, 3)]
        self.assertEqual(run(calls), [[1]] * 4 + [off(9, 7, 1), off(3), NONE])

    def test_bits_outside_the_mask_do_not_matter(self):
        self.assertEqual(last([(WATCH, 5, 2, 2), (PUT, WORD)]), off(5))
        self.assertEqual(last([(PUT, WORD), (WATCH, 5, 2, 0), (PUT, WORD - 2)]), off(5))

    def test_all_switches_of_the_mask_matter(self):
        calls = [(WATCH, 5, WORD, 2 ** 58 + 1), (PUT, 1), (PUT, 2 ** 58), (PUT, 2 ** 58 + 3), (PUT, 2 ** 58 + 1)]
        self.assertEqual(run(calls)[1:], [NONE, NONE, NONE, off(5)])

    def test_word_stays(self):
        self.assertEqual(run([(PUT, 6), (WATCH, 1, 7, 6), (WATCH, 2, 7, 7)]), [NONE, off(1), [1]])
        self.assertEqual(run([(PUT, 6), (PUT, 0), (WATCH, 1, 7, 0)])[-1], off(1))

    def test_set_off_does_not_wait_and_may_again(self):
        calls = [(WATCH, 1, 1, 1), (PUT, 1), (LEAVE, 1), (PUT, 0), (PUT, 1), (PUT, 0), (WATCH, 1, 1, 1), (PUT, 1)]
        self.assertEqual(run(calls), [[1], off(1), [-10], NONE, NONE, NONE, [1], off(1)])

    def test_the_rest_keep_their_order(self):
        calls = [(WATCH, x, 2 ** (x % 3), 2 ** (x % 3)) for x in (5, 4, 3, 2, 1, 6, 7)]
        self.assertEqual(run(calls + [(PUT, 2), (PUT, 5)])[-2:], [off(4, 1, 7), off(5, 3, 2, 6)])


class Set(unittest.TestCase):
    def test_off_on_over(self):
        watch = [(WATCH, 1, 4, 4)]
        self.assertEqual(last(watch + [(SET, 2, 1)]), off(1))
        self.assertEqual(last(watch + [(SET, 2, 2)]), off(1))
        self.assertEqual(last(watch + [(SET, 2, 0)]), NONE)
        gone = [(PUT, 7), (WATCH, 1, 4, 0)]
        self.assertEqual(last(gone + [(SET, 2, 0)]), off(1))
        self.assertEqual(last(gone + [(SET, 2, 2)]), off(1))
        self.assertEqual(last(gone + [(SET, 2, 1)]), NONE)

    def test_a_switch_that_is_so_already(self):
        for word, how in ((WORD, 1), (0, 0)):
            calls = [(PUT, word), (SET, 5, how), (WATCH, 1, WORD, word)]
            self.assertEqual(run(calls), [NONE, NONE, off(1)])

    def test_each_switch_alone_and_the_others_stay(self):
        for k in range(59):
            for word in (0, WORD, 0x155555555555555):
                bit = 2 ** k
                for how, after in ((0, word & ~bit), (1, word | bit), (2, word ^ bit)):
                    self.assertEqual(run([(PUT, word), (SET, k, how), (WATCH, 1, WORD, after)]), [NONE, NONE, off(1)])

    def test_over_twice(self):
        self.assertEqual(run([(PUT, 9), (SET, 3, 2), (SET, 3, 2), (WATCH, 1, WORD, 9)])[-1], off(1))

    def test_order_of_arrival(self):
        calls = [(WATCH, 8, 1, 1), (WATCH, 2, 3, 3), (WATCH, 5, 1, 1), (SET, 0, 1), (SET, 1, 2)]
        self.assertEqual(run(calls)[3:], [off(8, 5), off(2)])


class Watch(unittest.TestCase):
    def test_waits_until_it_stands(self):
        self.assertEqual(run([(WATCH, 10 ** 9, WORD, WORD), (PUT, WORD)]), [[1], off(10 ** 9)])

    def test_at_once(self):
        self.assertEqual(run([(PUT, 5), (WATCH, 1, 5, 5), (LEAVE, 1)]), [NONE, off(1), [-10]])

    def test_at_once_x_alone(self):
        calls = [(WATCH, 1, 1, 1), (WATCH, 2, 2, 0), (PUT, 1)]
        self.assertEqual(run(calls), [[1], off(2), off(1)])

    def test_empty_mask_always_stands(self):
        self.assertEqual(run([(WATCH, 1, 0, 0), (PUT, WORD), (WATCH, 2, 0, 0)]), [off(1), NONE, off(2)])

    def test_never_stands(self):
        for mask, value in ((0, 1), (5, 2), (WORD - 1, 1), (2 ** 57, 2 ** 58), (5, 7), (0, WORD)):
            self.assertTrue(changes_nothing((WATCH, 77, mask, value), -4))

    def test_waits_already(self):
        for x in WAITING:
            self.assertTrue(changes_nothing((WATCH, x, 16, 16), -3))

    def test_waits_already_goes_before_the_others(self):
        self.assertEqual(last(FURNISHED + [(WATCH, 11, 0, 1)]), [-3])
        self.assertEqual(last(FURNISHED + [(WATCH, 11, 0, 0)]), [-3])

    def test_room_for_a_thousand(self):
        # Filled call by call, by more calls than a list may have; test_full.py stays within them.
        full = [(WATCH, x, 1, 1) for x in range(1, 1001)]
        after = [
            (WATCH, 1001, 1, 1), (WATCH, 1001, 2, 0), (WATCH, 1, 1, 1), (WATCH, 1001, 1, 2), (LEAVE, 500),
            (WATCH, 1001, 1, 1), (WATCH, 500, 1, 1), (PUT, 1)]
        told = run(full + after)
        self.assertEqual(told[:1000], [[1]] * 1000)
        ids = [x for x in range(1, 1002) if x != 500]
        self.assertEqual(told[1000:], [[-5], off(1001), [-3], [-4], NONE, [1], [-5], off(*ids)])


if __name__ == "__main__":
    unittest.main()

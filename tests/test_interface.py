"""answers: the one list handed in and the one given back."""

import sys
import time
import unittest

from settingoff.keys import Key
from settingoff.rooms import answers
from support import (ARRIVE, BIG, CHAIN, CLEAR, COULD, COUNT, DISORDER, FURNISHED, FURNISHED_LISTS, KTH, LEAVE, LINK,
                     MOVE, ONE_OF_EACH, PAIR, PLACE, PROBE, PUT, RANK, REVERSE, SORT, SWITCHES, TOLD, WATCH, flat, load,
                     part, split)

ALL_KINDS = FURNISHED + ONE_OF_EACH + [load(*FURNISHED_LISTS)] + ONE_OF_EACH[::-1]
# 4100 numbers in the four lists: 24, 2996, 602 and 478.
LARGE = load(
    0, flat([(x, 1, 1) for x in range(5001, 5009)]),
    part(0, *[(x, -x * x % 1009, 1) for x in range(1, 999)]),
    part(1, *[(x, x, 1, 1000) for x in range(2001, 2151)]),
    part(2, *[(x, 1, x, 0) for x in range(3001, 3120)]))


class Answers(unittest.TestCase):
    def test_the_form_number_by_number(self):
        calls = [2, 7, 1, 1, 2, 8, 3, 3, 0, 3, 0, -1, 3, 5, 9, 0, -1, 2, 4, 5, 0, 1, 0, 0, 1, 14, 9]
        self.assertEqual(answers(calls), [1, 1, 1, 1, 4, 0, 2, 7, 8, 1, -1, 1, 1, 3, 0, 1, 9, 1, -10])

    def test_lists_number_by_number(self):
        calls = [22, 5, 3, 9, 2, 2, 5, 1, 1, 8, -1, 2, 0, 6, 63, 1, 7, 0, 1, 1, 21, 22, 5, 0, 0, 0, 1, 7, 26, 22, -1,
                 1, 0, 0, 2, 0, 0, 0, 16, 1, 23, 15]
        self.assertEqual(answers(calls), [
            2, 0, 0, 19, 5, 3, 9, 2, 2, 5, 1, 1, 8, -1, 2, 0, 6, 63, 1, 7, 0, 1, 1, 1, -2, 4, 1, 1, 0, 1, 1, -1,
            4, 1, 8, -1, 2, 2, 0, 0, 2, 0, 0])

    def test_kinds(self):
        given = answers(flat(ALL_KINDS + PROBE))
        self.assertIs(type(given), list)
        self.assertEqual({type(number) for number in given}, {int})

    def test_one_answer_for_each_call(self):
        self.assertEqual(len(split(answers(flat(ALL_KINDS)))), len(ALL_KINDS))
        for call in ONE_OF_EACH:
            self.assertEqual(len(split(answers(list(call)))), 1)

    def test_what_is_handed_in_stays(self):
        for calls in (flat(FURNISHED + PROBE), flat(ALL_KINDS), flat([LARGE] + ALL_KINDS)):
            kept = list(calls)
            given = answers(calls)
            self.assertEqual(calls, kept)
            given.append(5)
            self.assertEqual(calls, kept)

    def test_the_same_twice(self):
        for calls in (flat(FURNISHED + PROBE), flat(ALL_KINDS), flat([LARGE] + ALL_KINDS + [(TOLD,)])):
            first = answers(calls)
            kept = list(first)
            first.clear()
            self.assertEqual(answers(calls), kept)

    def test_nothing_is_kept(self):
        calls = flat(FURNISHED + PROBE[:4])
        kept = answers(calls)
        for others in ([PUT, 7, WATCH, 5, 8, 8, LINK, 0, 6, 0, 1, 1, ARRIVE, 0, 1, 2, 1, 1, PAIR, 0, 2, 0, 1, 1],
                       load(*FURNISHED_LISTS), LARGE, [*LARGE, CLEAR], [*load(5, (9, 1, 1))]):
            answers(list(others))
            self.assertEqual(answers(calls), kept)
            self.assertEqual(answers([TOLD]), [5, 0, 0, 0, 0, 0])
            self.assertEqual(answers([WATCH, 5, 7, 0]), [3, 0, 1, 5])

    def test_handed_in_unseen(self):
        class Guarded(list):
            def refuse(self, *given, **named):
                raise AssertionError("changed")

            __setitem__ = __delitem__ = __iadd__ = append = extend = insert = pop = remove = clear = refuse
            sort = reverse = refuse

        for calls in (flat(FURNISHED + PROBE), flat(ALL_KINDS + [LARGE])):
            self.assertEqual(answers(Guarded(calls)), answers(calls))

    def test_150_calls_with_4100_numbers_in_lists(self):
        self.assertEqual(len(LARGE) - 6, 4100)
        turn = [(SORT, 0, 0), (REVERSE, 0), (DISORDER, 0), (KTH, 0, 500), (RANK, 77), (MOVE, 0, 0, 1, 1000, 0, 0, 1, 4),
                (MOVE, 0, 0, 0, 1000, 3, 100, 1, 3), (COUNT, 0, 2, 500, 1), (TOLD,), (PLACE, 3119), (CHAIN, 0),
                (COULD, 1), (LINK, 0, 6000, 3, 1, 3), (LEAVE, 6000), (LEAVE, 7000)]
        calls = ([LARGE] + turn * 10)[:149] + [(TOLD,)]
        self.assertEqual(len(calls), 150)
        began = time.monotonic()
        told = split(answers(flat(calls)))
        # It takes a part of a second: this is to see a growth with the square of a chain's length.
        self.assertLess(time.monotonic() - began, 20)
        self.assertEqual(len(told), 150)
        keys = [-x * x % 1009 for x in range(1, 999)]
        self.assertEqual(told[3], [998 * 997 // 2 - sum(keys.count(key) - 1 for key in keys) // 2])
        self.assertEqual(told[4][1], sorted(keys)[500])
        self.assertEqual(told[8], [sum(key < 500 for key in keys)])
        self.assertEqual(told[9][:2], [0, 24])
        self.assertEqual(told[10:12], [[4, 2, 118], [998, *told[11][1:]]])
        self.assertEqual(told[12:16], [[0, 8, *range(5001, 5009)], [1], [0, 0], [-10]])
        self.assertEqual(told[149][:2], [0, 24])

    def test_many_loads(self):
        # 75 loads of 53 or 54 numbers: 4012 in all their lists.
        small = load(2, (9, 1, 1), part(0, *[(x, x, 1) for x in range(10, 26)]) + [63])
        right = load(2, (9, 1, 1), part(0, *[(x, x, 1) for x in range(10, 26)]))
        told = split(answers(flat([right, small] * 37 + [right, (TOLD,)])))
        self.assertEqual(told, [[0, 0], [-2]] * 37 + [[0, 0], list(right[1:])])

    def test_no_deeper_than_some_calls(self):
        lists = [flat([LARGE] + ALL_KINDS), flat([PUT, 1] for call in range(150)), flat([LARGE, (SWITCHES,)])]
        plain = [answers(calls) for calls in lists]
        limit = sys.getrecursionlimit()
        deep = 0
        frame = sys._getframe()
        while frame is not None:
            deep += 1
            frame = frame.f_back
        sys.setrecursionlimit(deep + 25)
        try:
            shallow = [answers(calls) for calls in lists]
        finally:
            sys.setrecursionlimit(limit)
        self.assertEqual(shallow, plain)

    def test_long_lists_are_walked_by_loops(self):
        # 17000 numbers is the longest list; more calls in it than the thousand that may nest.
        self.assertEqual(answers([PUT, 1] * 8500), [2, 0, 0] * 8500)


class Keys(unittest.TestCase):
    def test_lowest_terms(self):
        for kn, kd, top, bottom in (
                (0, 1, 0, 1), (0, BIG, 0, 1), (4, 6, 2, 3), (-4, 6, -2, 3), (6, 3, 2, 1), (-BIG, BIG, -1, 1),
                (BIG, 1, BIG, 1), (1, BIG, 1, BIG), (BIG, BIG - 1, BIG, BIG - 1), (-BIG, 3 * 10 ** 17, -10, 3)):
            key = Key(kn, kd)
            self.assertEqual((key.top, key.bottom), (top, bottom))


if __name__ == "__main__":
    unittest.main()

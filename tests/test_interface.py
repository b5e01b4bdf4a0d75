"""answers: the one list handed in and the one given back."""

import unittest

from settingoff.keys import Key
from settingoff.rooms import answers
from support import ARRIVE, BIG, FURNISHED, LINK, PAIR, PROBE, PUT, WATCH, flat


class Answers(unittest.TestCase):
    def test_the_form_number_by_number(self):
        calls = [2, 7, 1, 1, 2, 8, 3, 3, 0, 3, 0, -1, 3, 5, 9, 0, -1, 2, 4, 5, 0, 1, 0, 0, 1, 14, 9]
        self.assertEqual(answers(calls), [1, 1, 1, 1, 4, 0, 2, 7, 8, 1, -1, 1, 1, 3, 0, 1, 9, 1, -10])

    def test_kinds(self):
        given = answers(flat(FURNISHED + PROBE))
        self.assertIs(type(given), list)
        self.assertEqual({type(number) for number in given}, {int})

    def test_what_is_handed_in_stays(self):
        calls = flat(FURNISHED + PROBE)
        kept = list(calls)
        given = answers(calls)
        self.assertEqual(calls, kept)
        given.append(5)
        self.assertEqual(calls, kept)

    def test_nothing_is_kept(self):
        calls = flat(FURNISHED + PROBE[:4])
        first = answers(calls)
        kept = list(first)
        first.clear()
        self.assertEqual(answers(calls), kept)
        answers([PUT, 7, WATCH, 5, 8, 8, LINK, 0, 6, 0, 1, 1, ARRIVE, 0, 1, 2, 1, 1, PAIR, 0, 2, 0, 1, 1])
        self.assertEqual(answers(calls), kept)
        self.assertEqual(answers([WATCH, 5, 7, 0]), [3, 0, 1, 5])

    def test_handed_in_unseen(self):
        class Guarded(list):
            def refuse(self, *given, **named):
                raise AssertionError("changed")

            __setitem__ = __delitem__ = __iadd__ = append = extend = insert = pop = remove = clear = refuse
            sort = reverse = refuse

        calls = flat(FURNISHED + PROBE)
        self.assertEqual(answers(Guarded(calls)), answers(calls))

    def test_long_lists_are_walked_by_loops(self):
        # 17000 numbers is the longest list; more calls in it than the thousand that may nest.
        self.assertEqual(answers([PUT, 1] * 8500), [2, 0, 0] * 8500)


class Keys(unittest.TestCase):
    def test_lowest_terms(self):
        for kn, kd, top, bottom in (
                (0, 1, 0, 1), (0, BIG, 0, 1), (4, 6, 2, 3), (-4, 6, -2, 3), (6, 3, 2, 1), (-BIG, BIG, -1, 1),
                (BIG, 1, BIG, 1), (1, BIG, 1, BIG), (BIG, BIG - 1, BIG, BIG - 1), (-BIG, 3 * 10 ** 17, -10, 3)):
            key = Key(kn, kd)
            self.assertEqual((key.top, key.bottom), (top, bottom))


if __name__ == "__main__":
    unittest.main()

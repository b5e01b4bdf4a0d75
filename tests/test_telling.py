"""switches, chain, point, door, place, told, counts, could; clear; and that questions change nothing."""

import unittest

from support import (ARRIVE, BIG, CHAIN, CLEAR, COULD, COUNTS, CUT, DISSOLVE, DOOR, FURNISHED, FURNISHED_LISTS, LEAVE,
                     LINK, LOAD, MERGE, MOVE, NONE, ONE_OF_EACH, PAIR, PLACE, POINT, PROBE, PUT, QUESTIONS, REVERSE,
                     ROTATE, SET, SORT, SWITCHES, TOLD, UNLINK, WAITING, WATCH, WORD, last, linked, load, off,
                     only_answers, run)

# Calls of all kinds that change FURNISHED's rooms, and what told answers behind them.
CHANGES = [
    (SET, 3, 1), (WATCH, 14, WORD, 0), (SORT, 0, 1), (ROTATE, 63, 1), (MOVE, 0, 7, 0, 2, 2, 3, 1, 3), (REVERSE, 7),
    (CUT, 0, 63, 1), (LINK, 0, 27, 1, -6, 4), (MERGE, 5, 7), (UNLINK, 63, 0, 1, 3, 0, 1), (LEAVE, 31),
    (ARRIVE, 1, 35, 3, 0, 8), (DISSOLVE, 63, 1, 2), (PAIR, 0, 45, 1, 2, 4), (PAIR, 9, 46, 1, 2, 4),
]
CHANGED = [
    13, 9, 11, 3, 3, 13, 3, 3, 14, WORD, 0,
    24, 0, 2, 27, -3, 2, 21, 3, 1, 5, 2, 23, 2, 1, 22, 1, 1, 63, 2, 26, -5, 1, 24, 1, 2,
    16, 0, 2, 32, 1, 2, 4, 33, 7, 1, 2, 1, 1, 35, 0, 1, 3,
    22, 0, 2, 42, 1, 2, 0, 43, 9, 1, 1, 9, 1, 46, 1, 2, 1, 63, 1, 44, 1, 2, 1,
]


class Switches(unittest.TestCase):
    def test_new(self):
        self.assertEqual(last([(SWITCHES,)]), [0, 0])

    def test_word_and_watchers_in_order_of_arrival(self):
        self.assertEqual(last(FURNISHED + [(SWITCHES,)]), [5, 9, 11, 3, 3, 12, 8, 8, 13, 3, 3])

    def test_behind_changes(self):
        calls = FURNISHED + [(SET, 3, 1), (LEAVE, 11), (WATCH, 11, WORD, 0), (WATCH, 50, 1, 1), (SWITCHES,)]
        self.assertEqual(last(calls), [13, 6, 13, 3, 3, 11, WORD, 0])

    def test_greatest(self):
        calls = [(PUT, WORD - 1), (WATCH, 10 ** 9, WORD, WORD), (SWITCHES,)]
        self.assertEqual(last(calls), [WORD - 1, 3, 10 ** 9, WORD, WORD])

    def test_the_word_alone(self):
        self.assertEqual(last([(PUT, 6), (SET, 58, 2), (SWITCHES,)]), [2 ** 58 + 6, 0])


class Places(unittest.TestCase):
    def test_empty(self):
        for number in (0, 1, 63):
            for place in (CHAIN, POINT, DOOR):
                self.assertEqual(last([(place, number)]), [0])

    def test_empty_again(self):
        for place, emptying in ((CHAIN, (UNLINK, 63, 1, 9, 0, 0, 1)), (POINT, (DISSOLVE, 63, 1, 2)),
                                (DOOR, (PAIR, 63, 9, 0, 1, 2))):
            self.assertEqual(last(FURNISHED + [emptying, (place, 63)]), [0])

    def test_chain_from_the_front(self):
        self.assertEqual(last(FURNISHED + [(CHAIN, 0)]), [4, 21, 3, 1, 22, 1, 1, 23, 2, 1, 24, 1, 2])
        self.assertEqual(last(FURNISHED + [(CHAIN, 63)]), [2, 25, 5, 1, 26, -5, 1])

    def test_chain_behind_changes(self):
        calls = FURNISHED + [(LINK, 0, 20, 1, 0, 7), (REVERSE, 0), (LEAVE, 22), (CHAIN, 0)]
        self.assertEqual(last(calls), [4, 24, 1, 2, 23, 2, 1, 21, 3, 1, 20, 0, 1])
        calls = FURNISHED + [(MERGE, 63, 0), (CHAIN, 63), (CHAIN, 0)]
        self.assertEqual(run(calls)[-2:], [[6, 21, 3, 1, 22, 1, 1, 23, 2, 1, 24, 1, 2, 25, 5, 1, 26, -5, 1], [0]])

    def test_point_in_order_of_arrival_with_the_groups_need(self):
        self.assertEqual(last(FURNISHED + [(POINT, 0)]), [3, 31, 1, 2, 4, 32, 1, 2, 4, 33, 7, 1, 2])
        self.assertEqual(last(FURNISHED + [(POINT, 63)]), [1, 34, 1, 2, 2])

    def test_point_behind_changes(self):
        calls = FURNISHED + [(LEAVE, 31), (ARRIVE, 0, 35, 2, 3, 6), (DISSOLVE, 0, 7, 1), (ARRIVE, 0, 36, 1000, 7, 1)]
        self.assertEqual(last(calls + [(POINT, 0)]), [3, 32, 1, 2, 4, 35, 1, 2, 4, 36, 7, 1, 1000])

    def test_door_in_order_of_arrival(self):
        self.assertEqual(last(FURNISHED + [(DOOR, 0)]), [3, 41, 1, 2, 0, 42, 1, 2, 0, 43, 9, 1, 1])
        self.assertEqual(last(FURNISHED + [(DOOR, 63)]), [1, 44, 1, 2, 1])

    def test_door_behind_changes(self):
        calls = FURNISHED + [(PAIR, 0, 45, 1, 1, 2), (PAIR, 0, 46, 1, -4, 6), (DOOR, 0)]
        self.assertEqual(last(calls), [3, 42, 1, 2, 0, 43, 9, 1, 1, 46, -2, 3, 1])

    def test_keys_are_told_in_lowest_terms(self):
        for (kn, kd), (top, bottom) in (
                ((0, 1), (0, 1)), ((0, BIG), (0, 1)), ((6, 4), (3, 2)), ((-6, 4), (-3, 2)), ((BIG, BIG), (1, 1)),
                ((-BIG, 1), (-BIG, 1)), ((1, BIG), (1, BIG)), ((BIG, 2), (BIG // 2, 1)), ((-BIG, BIG - 1),) * 2):
            self.assertEqual(last([(LINK, 3, 7, 0, kn, kd), (CHAIN, 3)]), [1, 7, top, bottom])
            self.assertEqual(last([(ARRIVE, 3, 7, 2, kn, kd), (POINT, 3)]), [1, 7, top, bottom, 2])
            self.assertEqual(last([(PAIR, 3, 7, 1, kn, kd), (DOOR, 3)]), [1, 7, top, bottom, 1])
            told = run([(LINK, 3, 7, 0, kn, kd), (ARRIVE, 3, 8, 2, kn, kd), (PAIR, 3, 9, 1, kn, kd), (TOLD,)])[-1]
            self.assertEqual(told, [0, 0, 5, 3, 1, 7, top, bottom, 6, 3, 1, 8, top, bottom, 2,
                                    6, 3, 1, 9, top, bottom, 1])

    def test_keys_stay_when_moved(self):
        calls = linked(1, [(7, 6, 4), (8, -9, 3)]) + [(MOVE, 1, 2, 1, 9, 0, 0, 1, 0), (SORT, 2, 0), (CHAIN, 2)]
        self.assertEqual(last(calls), [2, 8, -3, 1, 7, 3, 2])


class Place(unittest.TestCase):
    def test_everybody(self):
        told = run(FURNISHED + [(PLACE, x) for x in WAITING])[len(FURNISHED):]
        self.assertEqual(told, [
            [1, 0, 0], [1, 0, 1], [1, 0, 2], [2, 0, 0], [2, 0, 1], [2, 0, 2], [2, 0, 3], [2, 63, 0], [2, 63, 1],
            [3, 0, 0], [3, 0, 1], [3, 0, 2], [3, 63, 0], [4, 0, 0], [4, 0, 1], [4, 0, 2], [4, 63, 0]])

    def test_nowhere(self):
        for x in (1, 77, 10 ** 9):
            self.assertEqual(last([(PLACE, x)]), [0, 0, 0])
            self.assertEqual(last(FURNISHED + [(PLACE, x)]), [0, 0, 0])

    def test_behind_changes(self):
        calls = FURNISHED + [(PUT, 3), (MOVE, 0, 63, 1, 1, 0, 0, 1, 1), (LEAVE, 31), (PAIR, 0, 9, 1, 1, 2)]
        asked = (11, 12, 24, 25, 32, 33, 41, 9, 43, 31)
        self.assertEqual(run(calls + [(PLACE, x) for x in asked])[-10:], [
            [0, 0, 0], [1, 0, 0], [2, 63, 0], [2, 63, 1], [3, 0, 0], [3, 0, 1], [0, 0, 0], [0, 0, 0], [4, 0, 1],
            [0, 0, 0]])


class Told(unittest.TestCase):
    def test_new(self):
        self.assertEqual(last([(TOLD,)]), [0, 0, 0, 0, 0])

    def test_furnished(self):
        self.assertEqual(last(FURNISHED + [(TOLD,)]), list(load(*FURNISHED_LISTS)[1:]))

    def test_behind_changes_of_all_kinds(self):
        self.assertEqual(last(FURNISHED + CHANGES + [(TOLD,)]), CHANGED)

    def test_one_kind_each(self):
        self.assertEqual(last([(PUT, 4), (WATCH, 9, 1, 1), (TOLD,)]), [4, 3, 9, 1, 1, 0, 0, 0])
        self.assertEqual(last([(LINK, 62, 9, 0, 1, 1), (TOLD,)]), [0, 0, 5, 62, 1, 9, 1, 1, 0, 0])
        self.assertEqual(last([(ARRIVE, 62, 9, 3, 1, 1), (TOLD,)]), [0, 0, 0, 6, 62, 1, 9, 1, 1, 3, 0])
        self.assertEqual(last([(PAIR, 62, 9, 0, 1, 1), (TOLD,)]), [0, 0, 0, 0, 6, 62, 1, 9, 1, 1, 0])

    def test_numbers_rise_and_empty_ones_are_left_out(self):
        calls = [(LINK, c, 100 + c, 0, c, 1) for c in (63, 5, 0, 7)] + [(LEAVE, 105), (TOLD,)]
        self.assertEqual(last(calls), [0, 0, 15, 0, 1, 100, 0, 1, 7, 1, 107, 7, 1, 63, 1, 163, 63, 1, 0, 0])


class Counts(unittest.TestCase):
    def test_new(self):
        self.assertEqual(last([(COUNTS,)]), [0, 0, 0, 0])

    def test_all_chains_points_and_doors_together(self):
        self.assertEqual(last(FURNISHED + [(COUNTS,)]), [3, 6, 4, 4])

    def test_behind_changes(self):
        self.assertEqual(last(FURNISHED + CHANGES + [(COUNTS,)]), [3, 6, 3, 4])
        self.assertEqual(last(FURNISHED + [(MERGE, 0, 63), (COUNTS,)]), [3, 6, 4, 4])


class Could(unittest.TestCase):
    def test_what_put_would_answer(self):
        for word in (0, 1, 3, 5, 8, 11, WORD, WORD - 1):
            told = last(FURNISHED + [(PUT, word)])
            self.assertTrue(only_answers((COULD, word), told))

    def test_by_hand(self):
        told = run(FURNISHED + [(COULD, 3), (COULD, 8), (COULD, 11), (COULD, 4), (SWITCHES,)])[-5:]
        self.assertEqual(told, [off(11, 13), off(12), off(11, 12, 13), NONE, [5, 9, 11, 3, 3, 12, 8, 8, 13, 3, 3]])

    def test_nobody_watches(self):
        self.assertEqual(run([(COULD, WORD), (SWITCHES,)]), [NONE, [0, 0]])

    def test_ids_still_wait(self):
        told = run([(WATCH, 9, 1, 1), (COULD, 1), (WATCH, 9, 1, 1), (COULD, 1), (PUT, 1), (COULD, 1)])
        self.assertEqual(told, [[1], off(9), [-3], off(9), off(9), NONE])


class Clear(unittest.TestCase):
    def test_the_rooms_are_new(self):
        told = run(FURNISHED + [(CLEAR,)] + PROBE)
        self.assertEqual(told[len(FURNISHED)], NONE)
        self.assertEqual(told[len(FURNISHED) + 1:], run(PROBE))

    def test_new_rooms(self):
        self.assertEqual(run([(CLEAR,), (TOLD,), (CLEAR,), (COUNTS,)]), [NONE, [0] * 5, NONE, [0] * 4])

    def test_everybody_may_wait_again(self):
        told = run(FURNISHED + [(CLEAR,)] + FURNISHED + [(TOLD,)])
        self.assertEqual(told[-1], list(load(*FURNISHED_LISTS)[1:]))
        self.assertEqual(told[:len(FURNISHED)], told[len(FURNISHED) + 1:-1])

    def test_after_load(self):
        self.assertEqual(run([load(*FURNISHED_LISTS), (CLEAR,), (TOLD,)]), [NONE, NONE, [0] * 5])


class Questions(unittest.TestCase):
    def test_all_are_here(self):
        self.assertEqual([call[0] for call in ONE_OF_EACH], list(range(29)))
        self.assertEqual([call[0] for call in QUESTIONS], [15, 16, 17, 18, 19, 20, 21, 24, 25, 26, 27, 28])

    def test_none_is_refused(self):
        for call in ONE_OF_EACH:
            told = last(FURNISHED + [call])
            self.assertFalse(len(told) == 1 and told[0] < 0, call)

    def test_they_change_nothing(self):
        for before in ([], FURNISHED, FURNISHED + CHANGES, [load(*FURNISHED_LISTS)]):
            for call in QUESTIONS:
                with self.subTest(call=call):
                    told = last(before + [call])
                    self.assertTrue(only_answers(call, told, before))

    def test_all_others_change(self):
        # So that a call that does nothing isn't taken for one that is done.
        plain = last(FURNISHED + [(TOLD,)])
        for call in ONE_OF_EACH:
            changed = last(FURNISHED + [call, (TOLD,)]) != plain
            self.assertEqual(changed, call not in QUESTIONS, call)

    def test_twice(self):
        for call in QUESTIONS:
            told = run(FURNISHED + CHANGES + [call, call])
            self.assertEqual(told[-1], told[-2])

    def test_told_is_what_the_others_tell(self):
        calls = FURNISHED + CHANGES
        told = run(calls + [(TOLD,), (SWITCHES,)] + [(place, n) for place in (CHAIN, POINT, DOOR) for n in range(64)])
        told = told[len(calls):]
        put_together = list(told[1])
        for start in (2, 66, 130):
            parts = [number for n in range(64) if told[start + n] != [0] for number in [n, *told[start + n]]]
            put_together += [len(parts), *parts]
        self.assertEqual(told[0], put_together)
        self.assertEqual(run([(LOAD, *told[0]), (TOLD,)]), [NONE, told[0]])


if __name__ == "__main__":
    unittest.main()

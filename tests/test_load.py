"""load: rooms told, and all that is asked of its lists."""

import unittest

from support import (ARRIVE, BIG, CHAIN, CLEAR, COUNTS, DISSOLVE, DOOR, FURNISHED, FURNISHED_LISTS, LINK, LOAD, NONE,
                     ONE_OF_EACH, PAIR, PLACE, POINT, PROBE, PUT, SET, SWITCHES, TOLD, WAITING, WATCH, WORD,
                     changes_nothing, flat, last, load, off, part, run)

TOP = 10 ** 9
# A list of one part, by the argument of load that it is handed to, with rows that can wait.
ROWS = {"chains": [(1, 1, 2), (2, -1, 2), (3, 0, 1)], "points": [(1, 1, 2, 3), (2, 0, 1, 2), (3, 1, 2, 3)],
        "doors": [(1, 1, 2, 0), (2, -1, 2, 1), (3, 1, 2, 0)]}


def taken(call):
    """Whether load is done and told answers just what was loaded, also on rooms that were not empty."""
    told = [NONE, list(call[1:])]
    return run([call, (TOLD,)]) == told and run(FURNISHED + [call, (TOLD,)])[-2:] == told


def refused(call):
    """Whether load answers -2 and changes nothing, neither new rooms nor others."""
    return run([call, (TOLD,)]) == [[-2], [0] * 5] and changes_nothing(call, -2)


class Cases(unittest.TestCase):
    def taken(self, *numbers, **lists):
        self.assertTrue(taken(load(*numbers, **lists)), (numbers, lists))

    def refused(self, *numbers, **lists):
        self.assertTrue(refused(load(*numbers, **lists)), (numbers, lists))


class Loaded(Cases):
    def test_nobody(self):
        for word in (0, 1, 5, WORD):
            self.taken(word)
        self.assertEqual(run(FURNISHED + [load(8), (COUNTS,), (SWITCHES,)])[-3:], [NONE, [0] * 4, [8, 0]])

    def test_furnished(self):
        self.taken(*FURNISHED_LISTS)

    def test_all_goes_on_as_if_brought_about_by_calls(self):
        after = run(FURNISHED + PROBE)[len(FURNISHED):]
        self.assertEqual(run([load(*FURNISHED_LISTS)] + PROBE)[1:], after)
        self.assertEqual(run(PROBE[:30] + [load(*FURNISHED_LISTS)] + PROBE)[31:], after)

    def test_each_call_goes_on_from_loaded_rooms(self):
        for call in ONE_OF_EACH:
            with self.subTest(call=call):
                told = run(FURNISHED + [call] + PROBE)[len(FURNISHED):]
                self.assertEqual(run([load(*FURNISHED_LISTS), call] + PROBE)[1:], told)

    def test_calls_of_all_kinds_by_hand(self):
        calls = [
            (WATCH, 11, 1, 0), (WATCH, 50, 16, 16), (SET, 3, 2), (PUT, 19), (LINK, 0, 51, 2, 3, 2), (CHAIN, 0),
            (LINK, 1, 26, 0, 1, 1), (ARRIVE, 0, 52, 9, 7, 1), (ARRIVE, 0, 53, 9, 1, 2), (ARRIVE, 0, 54, 9, 1, 2),
            (ARRIVE, 63, 41, 2, 1, 2), (PAIR, 0, 55, 1, 1, 2), (PAIR, 0, 56, 0, 9, 1), (DOOR, 0), (DISSOLVE, 63, 1, 2),
            (COUNTS,)]
        self.assertEqual(run([load(*FURNISHED_LISTS)] + calls)[1:], [
            [-3], [1], off(12), off(11, 13, 50), [1], [5, 51, 3, 2, 21, 3, 1, 22, 1, 1, 23, 2, 1, 24, 1, 2],
            [-3], off(33, 52), [1], off(31, 32, 53, 54),
            [-3], off(41, 55), off(43, 56), [1, 42, 1, 2, 0], off(34), [0, 7, 0, 2]])

    def test_what_was_there_is_gone(self):
        told = run(FURNISHED + [load(2, (11, 4, 4)), (TOLD,)] + [(PLACE, x) for x in WAITING])[-18:]
        self.assertEqual(told, [[2, 3, 11, 4, 4, 0, 0, 0], [1, 0, 0]] + [[0, 0, 0]] * 16)

    def test_ids_that_wait_now_may_come_elsewhere(self):
        self.taken(0, chains=part(0, (11, 1, 1), (31, 1, 1), (41, 2, 1)), doors=part(0, (21, 1, 1, 0)))

    def test_a_second_load(self):
        first, second = load(*FURNISHED_LISTS), load(7, chains=part(5, (21, 1, 1)))
        calls = [first, second, (TOLD,), first, (TOLD,), (CLEAR,), second, (TOLD,)]
        self.assertEqual(run(calls), [NONE, NONE, list(second[1:]), NONE, list(first[1:]), NONE, NONE, list(second[1:])])

    def test_after_a_refused_one(self):
        calls = [load(1, (9, 1, 1)), load(0, (9, 1, 1)), (TOLD,)]
        self.assertEqual(run(calls), [[-2], NONE, [0, 3, 9, 1, 1, 0, 0, 0]])

    def test_calls_behind_the_lists_are_read(self):
        for lists in ((), (0, (9, 1, 1)), (0, (9, 1, 2)), (-1, (9, 1, 1)), FURNISHED_LISTS):
            self.assertEqual(run([load(*lists), (PUT, WORD), (CLEAR,), (COUNTS,)])[2:], [NONE, [0] * 4])

    def test_loaded_twice_is_independent(self):
        # The same rooms again, whatever was done with the first ones.
        call = load(*FURNISHED_LISTS)
        told = run([call] + ONE_OF_EACH[:22] + [call, (TOLD,)])
        self.assertEqual(told[-1], list(call[1:]))


class Watchers(Cases):
    def test_lengths(self):
        rows = [9, 1, 1, 8, 2, 2, 7, 1, 1]
        for length in range(10):
            (self.taken if length % 3 == 0 else self.refused)(0, rows[:length])

    def test_ranges(self):
        for row in ((1, 1, 1), (TOP, 1, 1), (9, WORD, WORD), (9, WORD, 1), (9, 2 ** 58, 2 ** 58)):
            self.taken(0, row)
        for row in ((0, 1, 1), (-1, 1, 1), (TOP + 1, 1, 1), (BIG, 1, 1), (-BIG, 1, 1), (9, WORD + 1, 1), (9, -1, 1),
                    (9, BIG, 1), (9, WORD, WORD + 1), (9, 1, -1), (9, WORD, -1), (9, BIG, BIG), (9, WORD + 1, WORD + 1)):
            self.refused(0, row)
            self.refused(0, (8, 1, 1, *row))
            self.refused(0, (*row, 8, 1, 1))

    def test_a_pattern_that_can_never_stand(self):
        for mask, value in ((0, 1), (1, 2), (5, 7), (WORD - 1, WORD), (0, WORD), (2 ** 57, 2 ** 58)):
            self.refused(0, (9, mask, value))
            self.refused(WORD, (9, mask, value))

    def test_a_pattern_that_stands_with_the_word_told(self):
        for word, mask, value in ((0, 0, 0), (5, 0, 0), (1, 1, 1), (5, 7, 5), (WORD, WORD, WORD), (0, WORD, 0), (4, 1, 0)):
            self.refused(word, (9, mask, value))
            self.refused(word, (8, WORD, word ^ 3, 9, mask, value))
        for word, mask, value in ((0, 1, 1), (5, 7, 4), (WORD, WORD, WORD - 2 ** 58), (WORD, WORD, 0), (5, 1, 0)):
            self.taken(word, (9, mask, value))

    def test_it_is_the_new_word_that_counts(self):
        self.assertEqual(run([(PUT, 1), load(0, (9, 1, 1))])[-1], NONE)
        self.assertEqual(run([(PUT, 0), load(1, (9, 1, 1)), (SWITCHES,)])[1:], [[-2], [0, 0]])

    def test_the_same_pattern_twice(self):
        self.taken(0, (9, 1, 1, 8, 1, 1))


class Parts(Cases):
    def each(self):
        for name, rows in ROWS.items():
            yield name, rows

    def test_ends_in_the_middle(self):
        for name, rows in self.each():
            numbers = part(2, *rows) + part(9, (7, *rows[0][1:]))
            whole = (0, 2 + len(flat(rows)), len(numbers))
            for length in range(len(numbers) + 1):
                (self.taken if length in whole else self.refused)(**{name: numbers[:length]})

    def test_something_left_over(self):
        for name, rows in self.each():
            for rest in ([3], [3, 1], [3, 0], [63], [0, 0], [3, 1, 8], [0]):
                self.refused(**{name: part(2, *rows) + rest})

    def test_counts(self):
        for name, rows in self.each():
            numbers = flat(rows)
            self.taken(**{name: [2, 3] + numbers})
            for count in (0, -1, 1, 2, 4, 1000, 1001, BIG, -BIG):
                self.refused(**{name: [2, count] + numbers})
            self.refused(**{name: [2, 0]})
            self.refused(**{name: [2, -1]})
            self.refused(**{name: [2, 0, 3, 3] + numbers})
            self.refused(**{name: [2, 3] + numbers + [4, 0]})

    def test_a_negative_count_does_not_go_back(self):
        for name, rows in self.each():
            width = len(rows[0])
            self.refused(**{name: [2, 1, *rows[0], 3, -1, *rows[1]]})
            self.refused(**{name: [2, 1, *rows[0], 3, -width]})

    def test_numbers(self):
        for name, rows in self.each():
            for number in (0, 1, 62, 63):
                self.taken(**{name: part(number, *rows)})
            for number in (-1, 64, -BIG, BIG):
                self.refused(**{name: part(number, *rows)})
                self.refused(**{name: part(0, rows[0]) + part(number, *rows[1:])})

    def test_numbers_rise(self):
        for name, rows in self.each():
            for first, second, third in ((0, 1, 2), (0, 62, 63), (5, 7, 63)):
                self.taken(**{name: part(first, rows[0]) + part(second, rows[1]) + part(third, rows[2])})
            for first, second, third in ((0, 0, 1), (1, 0, 2), (0, 2, 1), (0, 1, 0), (0, 1, 1), (63, 1, 2), (5, 5, 5)):
                self.refused(**{name: part(first, rows[0]) + part(second, rows[1]) + part(third, rows[2])})

    def test_all_sixty_four(self):
        for name, rows in self.each():
            self.taken(**{name: [number for n in range(64) for number in part(n, (n + 1, *rows[0][1:]))]})

    def test_the_same_number_in_different_lists(self):
        self.taken(0, chains=part(7, (1, 1, 1)), points=part(7, (2, 1, 1, 2)), doors=part(7, (3, 1, 1, 0)))

    def test_ids(self):
        for name, rows in self.each():
            for x in (1, 9, TOP):
                self.taken(**{name: part(2, (x, *rows[0][1:]))})
            for x in (0, -1, TOP + 1, BIG, -BIG):
                self.refused(**{name: part(2, (x, *rows[0][1:]))})
                self.refused(**{name: part(2, *rows[:2], (x, *rows[2][1:]))})

    def test_keys(self):
        for name, rows in self.each():
            more = rows[0][3:]
            for key in ((0, 1), (1, 1), (-1, 1), (BIG, 1), (-BIG, 1), (1, BIG), (-1, BIG), (BIG, BIG - 1), (-3, 2),
                        (BIG - 1, BIG)):
                self.taken(**{name: part(2, (9, *key, *more))})
            for key in ((0, 2), (0, BIG), (0, 0), (0, -1), (2, 2), (2, 4), (-2, 4), (6, 3), (BIG, BIG), (BIG, 2),
                        (-BIG, 10), (1, 0), (1, -1), (-1, -1), (1, -2), (1, -BIG), (15, 25), (BIG - 2, BIG)):
                self.refused(**{name: part(2, (9, *key, *more))})
                self.refused(**{name: part(2, rows[1], (9, *key, *more))})

    def test_beyond_what_may_be_handed_in(self):
        for name, rows in self.each():
            for key in ((BIG + 1, 1), (-BIG - 1, 1), (1, BIG + 1)):
                self.refused(**{name: part(2, (9, *key, *rows[0][3:]))})

    def test_equal_keys_on_a_chain(self):
        self.taken(0, chains=part(0, (1, 1, 2), (2, 1, 2), (3, 0, 1), (4, 1, 2)))


class PointsAndDoors(Cases):
    def test_needs(self):
        for need in (2, 3, 999, 1000):
            self.taken(0, points=part(0, (9, 1, 2, need)))
        for need in (1, 0, -1, 1001, BIG, -BIG):
            self.refused(0, points=part(0, (9, 1, 2, need)))
            self.refused(0, points=part(0, (8, 1, 3, 2), (9, 1, 2, need)))

    def test_one_need_for_each_group(self):
        self.taken(0, points=part(0, (1, 1, 2, 4), (2, 0, 1, 9), (3, 1, 2, 4), (4, 1, 2, 4)))
        for needs in ((4, 5), (5, 4), (2, 1000), (1000, 2)):
            self.refused(0, points=part(0, (1, 1, 2, needs[0]), (2, 1, 2, needs[1])))
            self.refused(0, points=part(0, (1, 1, 2, needs[0]), (3, 0, 1, 7), (2, 1, 2, needs[1])))
            self.taken(0, points=part(0, (1, 1, 2, needs[0]), (2, 1, 3, needs[1])))
            self.taken(0, points=part(0, (1, 1, 2, needs[0])) + part(1, (2, 1, 2, needs[1])))

    def test_a_group_is_smaller_than_its_need(self):
        for need in (2, 3, 4, 20):
            group = [(x, -1, 2, need) for x in range(1, need + 2)]
            self.taken(0, points=part(0, *group[:need - 1]))
            self.refused(0, points=part(0, *group[:need]))
            self.refused(0, points=part(0, *group))
            self.refused(0, points=part(0, (99, 1, 2, 2), *group[:need], (98, 5, 2, 2)))
            self.taken(0, points=part(0, *group[:need - 1]) + part(1, *group[need - 1:need]))
            self.taken(0, points=part(0, *group[:need - 1], (99, 1, 2, need)))

    def test_sides(self):
        for side in (0, 1):
            self.taken(0, doors=part(0, (9, 1, 2, side)))
        for side in (-1, 2, BIG, -BIG):
            self.refused(0, doors=part(0, (9, 1, 2, side)))
            self.refused(0, doors=part(0, (8, 1, 3, 0), (9, 1, 2, side)))

    def test_one_side_for_each_key(self):
        for side in (0, 1):
            self.taken(0, doors=part(0, (1, 1, 2, side), (2, 0, 1, 1 - side), (3, 1, 2, side)))
            self.refused(0, doors=part(0, (1, 1, 2, side), (2, 1, 2, 1 - side)))
            self.refused(0, doors=part(0, (1, 1, 2, side), (2, 0, 1, side), (3, 1, 2, 1 - side)))
            self.taken(0, doors=part(0, (1, 1, 2, side)) + part(1, (2, 1, 2, 1 - side)))
            self.taken(0, doors=part(0, (1, 1, 2, side), (2, -1, 2, 1 - side)))

    def test_a_pair_in_a_later_part(self):
        self.refused(0, doors=part(0, (1, 1, 2, 0)) + part(5, (2, 1, 2, 0), (3, 1, 2, 1)))
        self.refused(0, points=part(0, (1, 1, 2, 3)) + part(5, (2, 1, 2, 2), (3, 1, 2, 2)))


class Ids(Cases):
    def lists(self, ids):
        """Four lists that tell these eight ids, in order."""
        a, b, c, d, e, f, g, h = ids
        return (0, (a, 1, 1, b, 2, 2), part(0, (c, 1, 2)) + part(1, (d, 1, 2)),
                part(0, (e, 1, 2, 5)) + part(1, (f, 1, 2, 5)), part(0, (g, 1, 2, 0)) + part(1, (h, 1, 2, 0)))

    def test_once_each(self):
        self.taken(*self.lists(range(1, 9)))

    def test_twice_anywhere(self):
        for i in range(8):
            for j in range(i):
                ids = list(range(1, 9))
                ids[i] = ids[j]
                self.refused(*self.lists(ids))

    def test_twice_in_one_part(self):
        self.refused(0, chains=part(0, (9, 1, 2), (9, 1, 3)))
        self.refused(0, chains=part(0, (9, 1, 2), (8, 1, 1), (9, 1, 2)))
        self.refused(0, points=part(0, (9, 1, 2, 5), (9, 1, 2, 5)))
        self.refused(0, points=part(0, (9, 1, 2, 5), (9, 1, 3, 5)))
        self.refused(0, doors=part(0, (9, 1, 2, 0), (9, 1, 2, 0)))
        self.refused(0, doors=part(0, (9, 1, 2, 0), (9, 1, 3, 1)))


class Lists(Cases):
    def test_one_wrong_list_refuses_all(self):
        word, *lists = FURNISHED_LISTS
        for i, wrong in enumerate(([14, 1], [0, 1, 51, 2, 2], [0, 1, 51, 1, 1, 1], [0, 1, 51, 1, 1, 2])):
            self.refused(word, *lists[:i], wrong, *lists[i + 1:])
            self.refused(word, *[wrong if j == i else [] for j in range(4)])

    def test_lists_in_the_wrong_place(self):
        word, watchers, chains, points, doors = FURNISHED_LISTS
        self.refused(word, watchers, points, chains, doors)
        self.refused(word, watchers, chains, doors, points)
        self.refused(word, chains, watchers, points, doors)

    def test_any_numbers(self):
        for numbers in ([0], [1], [-1], [BIG], [-BIG], [0, 0], [BIG, BIG], [0, 1], [0, 0, 0], [0, 0, 0, 0], [-BIG] * 9,
                        [BIG] * 9, [0] * 4100, [1] * 4100, [BIG] * 4100, [-BIG] * 4100, list(range(4100))):
            for name in ("watchers", *ROWS):
                call = load(5, **{name: numbers})
                self.assertEqual(run([call, (TOLD,)]), [[-2], [0] * 5], (name, numbers[:9]))

    def test_out_of_range_goes_first(self):
        for word in (-1, WORD + 1, BIG, -BIG):
            for lists in ((), ((9, 1),), ((), (0, 1))):
                self.assertTrue(changes_nothing(load(word, *lists), -1))

    def test_what_told_answers_is_loaded(self):
        for before in ([], FURNISHED, FURNISHED + ONE_OF_EACH[:15]):
            told = last(before + [(TOLD,)])
            self.assertEqual(run(before + [(CLEAR,), (LOAD, *told), (TOLD,)])[-3:], [NONE, NONE, told])
            plain = run(before + PROBE)[len(before):]
            self.assertEqual(run([(LOAD, *told)] + PROBE)[1:], plain)

    def test_points_and_doors_read_alone(self):
        call = load(0, points=part(7, (9, -1, 2, 3)), doors=part(8, (8, -1, 2, 1)))
        self.assertEqual(run([call, (POINT, 7), (DOOR, 8), (POINT, 8), (DOOR, 7)]),
                         [NONE, [1, 9, -1, 2, 3], [1, 8, -1, 2, 1], [0], [0]])


if __name__ == "__main__":
    unittest.main()

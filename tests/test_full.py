"""Places with 1000 in them, loaded in one call, and one more; all within 150 calls and 4100 numbers of lists."""

import unittest

from support import (ARRIVE, CHAIN, CLEAR, COULD, COUNT, COUNTS, CUT, DISORDER, DISSOLVE, DOOR, KTH, LEAVE, LINK, MERGE,
                     MOVE, NONE, PAIR, PLACE, POINT, PUT, RANK, REVERSE, ROTATE, SET, SORT, SWITCHES, TOLD, UNLINK,
                     WATCH, flat, last, load, off, part, run)

IDS = range(1, 1001)


def watchers(ids):
    return flat([(x, 1, 1) for x in ids])


def entries(ids):
    return [(x, x, 1) for x in ids]


def guests(ids, need=1000):
    return [(x, x, 1, need) for x in ids]


def callers(ids, side=0):
    return [(x, x, 1, side) for x in ids]


class Full(unittest.TestCase):
    def test_a_thousand_are_loaded(self):
        for call, counts in ((load(0, watchers(IDS)), [1000, 0, 0, 0]),
                             (load(0, chains=part(3, *entries(IDS))), [0, 1000, 0, 0]),
                             (load(0, points=part(3, *guests(IDS))), [0, 0, 1000, 0]),
                             (load(0, doors=part(3, *callers(IDS))), [0, 0, 0, 1000])):
            self.assertEqual(run([call, (COUNTS,), (TOLD,)]), [NONE, counts, list(call[1:])])

    def test_one_more_is_refused(self):
        more = range(1, 1002)
        for call in (load(0, watchers(more)), load(0, chains=part(3, *entries(more))),
                     load(0, points=part(3, *guests(more))), load(0, doors=part(3, *callers(more)))):
            self.assertEqual(run([call, (TOLD,)]), [[-2], [0] * 5])
            self.assertEqual(last([(PUT, 8), (LINK, 3, 9, 0, 1, 1), call, (TOLD,)]), [8, 0, 5, 3, 1, 9, 1, 1, 0, 0])

    def test_a_place_has_room_beside_another(self):
        call = load(0, watchers(IDS), part(0, *entries(range(1001, 1361))))
        self.assertEqual(run([call, (COUNTS,)]), [NONE, [1000, 360, 0, 0]])
        halves = load(0, chains=part(0, *entries(range(1, 701))) + part(1, *entries(range(701, 1201))))
        self.assertEqual(run([halves, (COUNTS,)]), [NONE, [0, 1200, 0, 0]])

    def test_watchers(self):
        full = load(0, watchers(IDS))
        calls = [(WATCH, 1001, 1, 1), (PLACE, 1001), (WATCH, 1001, 2, 0), (WATCH, 1, 2, 2), (WATCH, 1001, 1, 2),
                 (PLACE, 1000), (LEAVE, 500), (WATCH, 1001, 3, 3), (WATCH, 1002, 3, 3), (PLACE, 1001), (COULD, 1),
                 (SET, 0, 1), (SWITCHES,)]
        ids = off(*[x for x in IDS if x != 500])
        self.assertEqual(run([full] + calls)[1:], [
            [-5], [0, 0, 0], off(1001), [-3], [-4], [1, 0, 999], NONE, [1], [-5], [1, 0, 999], ids, ids,
            [1, 3, 1001, 3, 3]])

    def test_link(self):
        full = load(0, chains=part(3, *entries(IDS)))
        for order in range(6):
            calls = [(LINK, 3, 1001, order, 5, 1), (PLACE, 1001), (LINK, 3, 1, order, 5, 1), (LINK, 4, 1001, order, 5, 1),
                     (LEAVE, 7), (LINK, 3, 1002, order, 5, 1), (LINK, 3, 1003, order, 5, 1), (PLACE, 1002)]
            spot = [999, 0, 5, 4, 0, 0][order]
            self.assertEqual(run([full] + calls)[1:], [[-5], [0, 0, 0], [-3], [1], NONE, [1], [-5], [2, 3, spot]])

    def test_whole_chains(self):
        full = load(0, chains=part(3, *entries(IDS)))
        self.assertEqual(run([full, (UNLINK, 3, 0, 1000, 0, 0, 1), (COUNTS,)])[1:], [off(*IDS), [0] * 4])
        self.assertEqual(run([full, (UNLINK, 3, 1, 999, 0, 0, 1), (CHAIN, 3)])[1:], [off(*range(1000, 1, -1)), [1, 1, 1, 1]])
        self.assertEqual(run([full, (REVERSE, 3), (DISORDER, 3), (PLACE, 1), (RANK, 1), (KTH, 3, 999)])[1:],
                         [NONE, [499500], [2, 3, 999], [0], [1000, 1000, 1]])
        self.assertEqual(run([full, (ROTATE, 3, 10 ** 9 - 1), (PLACE, 1), (SORT, 3, 1), (PLACE, 1)])[1:],
                         [NONE, [2, 3, 1], NONE, [2, 3, 999]])
        self.assertEqual(run([full, (COUNT, 3, 2, 1001, 2), (COUNT, 3, 0, 0, 1)])[1:], [[500], [1000]])

    def test_move(self):
        call = load(0, chains=part(3, *entries(range(1, 1000))) + part(4, *entries(range(1000, 1003))))
        for order in range(6):
            told = run([call, (MOVE, 4, 3, 0, 2, 0, 0, 1, order), (CHAIN, 4), (MOVE, 4, 3, 1, 1, 0, 0, 1, order),
                        (MOVE, 4, 3, 1, 1, 0, 0, 1, order), (MOVE, 4, 3, 1, 1, 1, 5, 1, order),
                        (MOVE, 3, 3, 1, 1000, 0, 0, 1, 0), (PLACE, 1002), (PLACE, 1), (COUNTS,)])
            self.assertEqual(told[1:7], [[-5], [3, 1000, 1000, 1, 1001, 1001, 1, 1002, 1002, 1], off(1002), [-5], NONE,
                                         [0, 1000] + told[6][2:]])
            self.assertEqual(told[7][:2], [2, 3])
            self.assertEqual(told[9], [0, 1002, 0, 0])
        told = run([call, (MOVE, 3, 4, 0, 998, 0, 0, 1, 0), (PLACE, 1), (MOVE, 3, 4, 0, 997, 0, 0, 1, 0), (PLACE, 1)])
        self.assertEqual(told[1:], [[-5], [2, 3, 0], off(*range(1, 998)), [2, 4, 3]])

    def test_merge(self):
        parts = part(3, *entries(range(2, 502))), part(4, *entries(range(502, 1002)))
        told = run([load(0, chains=parts[0] + parts[1]), (LINK, 3, 1, 1, 1, 1), (MERGE, 3, 4), (MERGE, 4, 3), (CHAIN, 5),
                    (COUNTS,), (MERGE, 3, 3), (LEAVE, 1), (MERGE, 4, 3), (CHAIN, 3), (PLACE, 502), (LINK, 4, 1, 0, 1, 1)])
        self.assertEqual(told[1:], [[1], [-5], [-5], [0], [0, 1001, 0, 0], [-4], NONE, NONE, [0], [2, 4, 500], [-5]])

    def test_cut(self):
        parts = part(3, *entries(range(1, 601))), part(4, *entries(range(601, 1202)))
        told = run([load(0, chains=parts[0] + parts[1]), (CUT, 3, 4, 200), (PLACE, 600), (CUT, 3, 4, 201), (PLACE, 600),
                    (CUT, 3, 4, 200), (CUT, 3, 4, 201), (CUT, 3, 3, 0), (CUT, 4, 5, 0), (PLACE, 601), (COUNTS,)])
        self.assertEqual(told[1:], [[-5], [2, 3, 599], NONE, [2, 4, 999], [-5], NONE, [-4], NONE, [2, 5, 0],
                                    [0, 1201, 0, 0]])

    def test_arrive(self):
        full = load(0, points=part(2, *[(x, 1, 1, 1000) for x in range(1, 1000)], (1000, 2, 1, 3)))
        calls = [(ARRIVE, 2, 2001, 9, 3, 1), (PLACE, 2001), (ARRIVE, 2, 2001, 9, 2, 1), (ARRIVE, 2, 2001, 1, 3, 1),
                 (ARRIVE, 2, 1000, 9, 3, 1), (ARRIVE, 3, 2001, 9, 3, 1), (PLACE, 1000), (ARRIVE, 2, 2002, 5, 1, 1),
                 (POINT, 2), (ARRIVE, 2, 2003, 9, 2, 1), (ARRIVE, 2, 2004, 9, 2, 1), (COUNTS,)]
        self.assertEqual(run([full] + calls), [
            NONE, [-5], [0, 0, 0], [-5], off(2001), [-3], [1], [3, 2, 999], off(*range(1, 1000), 2002),
            [1, 1000, 2, 1, 3], [1], off(1000, 2003, 2004), [0, 0, 1, 0]])

    def test_a_group_of_a_thousand(self):
        for many, told in ((999, NONE), (1000, [-2])):
            self.assertEqual(last([load(0, points=part(0, *[(x, 0, 1, 1000) for x in range(1, many + 1)]))]), told)

    def test_dissolve(self):
        full = load(0, points=part(2, *guests(IDS)))
        self.assertEqual(run([full, (DISSOLVE, 2, 7, 1), (ARRIVE, 2, 7, 2, 7, 1), (ARRIVE, 2, 1001, 2, 7, 1)])[1:],
                         [off(7), [1], off(7, 1001)])

    def test_pair(self):
        full = load(0, doors=part(2, *[(x, x, 1, x % 2) for x in IDS]))
        calls = [(PAIR, 2, 2001, 0, 5000, 1), (PAIR, 2, 2001, 1, 7, 1), (PLACE, 2001), (PAIR, 3, 2001, 0, 1, 1),
                 (PAIR, 2, 8, 1, 9, 1), (PAIR, 2, 2002, 0, 7, 1), (PLACE, 8), (PAIR, 2, 2003, 0, 7, 1),
                 (PAIR, 2, 2004, 0, 7, 1), (PLACE, 2003)]
        self.assertEqual(run([full] + calls)[1:], [
            [-5], [-5], [0, 0, 0], [1], [-3], off(7, 2002), [4, 2, 6], [1], [-5], [4, 2, 999]])
        self.assertEqual(last([full, (CLEAR,), (DOOR, 2)]), [0])


if __name__ == "__main__":
    unittest.main()

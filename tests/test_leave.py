"""leave, and that an id waits in one place at most."""

import unittest

from support import (ARRIVE, CUT, FURNISHED, LEAVE, LINK, MERGE, MOVE, NONE, PAIR, PUT, WAITING, WATCH,
                     changes_nothing, empty_chain, last, off, run)

# A call for each kind of place after which x waits there.
COMING = ((WATCH, 50, 1, 1), (LINK, 1, 50, 0, 1, 2), (ARRIVE, 1, 50, 2, 1, 2), (PAIR, 1, 50, 0, 1, 2))


class Leave(unittest.TestCase):
    def test_from_each_kind_of_place_and_back_to_each(self):
        for first in COMING:
            for second in COMING:
                calls = [(LEAVE, 50), first, second, (LEAVE, 50), (LEAVE, 50), second, first]
                self.assertEqual(run(calls), [[-10], [1], [-3], NONE, [-10], [1], [-3]])

    def test_everybody_leaves_alone(self):
        for x in WAITING:
            calls = FURNISHED + [(LEAVE, x)] + [(LEAVE, y) for y in WAITING]
            self.assertEqual(run(calls)[-18:], [NONE] + [[-10] if y == x else NONE for y in WAITING])

    def test_nobody_is_set_off_and_others_keep_their_places(self):
        told = run(FURNISHED + [(LEAVE, 22), (LEAVE, 11), (LEAVE, 31), (LEAVE, 41)] + [
            empty_chain(0), (PUT, 3), (ARRIVE, 0, 61, 1, 1, 2), (ARRIVE, 0, 62, 1, 1, 2), (ARRIVE, 0, 63, 1, 1, 2),
            (PAIR, 0, 64, 1, 1, 2)])[-6:]
        self.assertEqual(told, [off(21, 23, 24), off(13), [1], [1], off(32, 61, 62, 63), off(42, 64)])

    def test_does_not_wait(self):
        for x in (1, 77, 10 ** 9):
            self.assertTrue(changes_nothing((LEAVE, x), -10))

    def test_after_being_moved(self):
        for call in ((MOVE, 1, 2, 0, 1, 0, 0, 1, 0), (MERGE, 2, 1), (CUT, 1, 2, 0)):
            calls = [COMING[1], call, COMING[2], (LEAVE, 50), empty_chain(2), COMING[2]]
            self.assertEqual(run(calls)[2:], [[-3], NONE, NONE, [1]])

    def test_refused_or_set_off_at_once_does_not_wait(self):
        for call in ((WATCH, 50, 1, 2), (WATCH, 50, 0, 0), (ARRIVE, 1, 50, 1, 1, 2), (LINK, 64, 50, 0, 1, 1)):
            self.assertEqual(last([call, (LEAVE, 50)]), [-10])


if __name__ == "__main__":
    unittest.main()

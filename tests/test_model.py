"""Long lists of calls of all kinds, beside a second, literal writing of the document."""

import random
import unittest

from model import SHAPES, model_answers
from support import run

WORDS = (0, 1, 2, 3, 4, 5, 6, 7, 2 ** 58, 2 ** 59 - 1)
PATTERNS = (1, 2, 3, 4, 7, 2 ** 58, 2 ** 59 - 1)
KEYS = ((0, 1), (0, 9), (1, 2), (2, 4), (-1, 2), (1, 3), (3, 1), (10 ** 18, 1), (1 - 10 ** 18, 10 ** 18),
        (2 - 10 ** 18, 10 ** 18 - 1), (-1, 10 ** 18), (-3, 6))
WRONG = (-10 ** 18, -1, 0, 2, 7, 64, 1001, 10 ** 18)


def a_number(source, name):
    if name == "x":
        return source.randint(1, 40)
    if name == "place":
        return source.choice((0, 0, 1, 2, 63))
    if name == "w":
        return source.choice(WORDS)
    if name in ("n0", "n1"):
        return source.choice((1, 1, 2, 2, 3, 4, 1000))
    if name == "turns":
        return source.choice((0, 1, 2, 3, 10 ** 9))
    return source.randint(0, {"k": 3, "how": 2, "order": 5, "cond": 6, "bit": 1}[name])


def a_call(source):
    place = source.choice((0, 1, 2, 2, 3, 3, 3, 3, 3, 4, 5, 5, 6, 7, 8, 9, 10, 11, 11, 11, 12, 13, 13, 13, 14))
    key = source.choice(KEYS)
    numbers = []
    for name in SHAPES[place].split():
        numbers.append(key[name == "kd"] if name in ("kn", "kd") else a_number(source, name))
    if place == 2:
        numbers[1] = source.choice(PATTERNS)
        numbers[2] = source.choice((numbers[2], numbers[1] & numbers[2]))
    if source.randrange(25) == 0:
        numbers[source.randrange(len(numbers))] = source.choice(WRONG)
    return (place, *numbers)


def emptying():
    """Calls that tell what is left at the end."""
    chains = [(4, c, 0, 1000, 0, 0, 1) for c in (0, 1, 2, 63)]
    points = [(12, m, kn, kd) for m in (0, 1, 2, 63) for kn, kd in KEYS]
    return chains + points + [(14, x) for x in range(1, 41)]


class Beside(unittest.TestCase):
    def test_many_lists(self):
        for seed in range(300):
            source = random.Random(seed)
            calls = [a_call(source) for call in range(150)] + emptying()
            self.assertEqual(run(calls), model_answers(calls), seed)

    def test_long_chains(self):
        for seed in range(6):
            source = random.Random(seed)
            calls = [(3, x % 2, x, source.randrange(6), source.randint(-9, 9), source.randint(1, 9))
                     for x in range(1, 401)]
            for step in range(40):
                calls.append((5, *source.choice(((0, 1), (1, 0), (0, 0), (1, 1))), source.randrange(2),
                              source.choice((5, 50, 1000)), source.randrange(7), source.randint(-9, 9),
                              source.randint(1, 9), source.randrange(6)))
            calls += [(4, 0, 0, 1000, 0, 0, 1), (4, 1, 0, 1000, 0, 0, 1)]
            self.assertEqual(run(calls), model_answers(calls), seed)


if __name__ == "__main__":
    unittest.main()

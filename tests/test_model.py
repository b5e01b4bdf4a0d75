"""Long lists of calls of all kinds, beside a second, literal writing of the document."""

import random
import unittest

from model import Model, SHAPES, model_answers, unframed
from support import FURNISHED, ONE_OF_EACH, load, run

WORDS = (0, 1, 2, 3, 4, 5, 6, 7, 2 ** 58, 2 ** 59 - 1)
PATTERNS = (1, 2, 3, 4, 7, 2 ** 58, 2 ** 59 - 1)
KEYS = ((0, 1), (0, 9), (1, 2), (2, 4), (-1, 2), (1, 3), (3, 1), (10 ** 18, 1), (1 - 10 ** 18, 10 ** 18),
        (2 - 10 ** 18, 10 ** 18 - 1), (-1, 10 ** 18), (-3, 6))
WRONG = (-10 ** 18, -1, 0, 2, 7, 64, 1001, 10 ** 18)


COMMON = (0, 1, 2, 2, 3, 3, 3, 3, 3, 4, 5, 5, 6, 7, 8, 9, 10, 11, 11, 11, 12, 13, 13, 13, 14)
QUESTIONS = (15, 16, 17, 18, 19, 20, 21, 24, 25, 26, 27, 28)


def a_number(source, name):
    if name == "x":
        return source.randint(1, 40)
    if name == "place":
        return source.choice((0, 0, 1, 2, 63))
    if name == "w":
        return source.choice(WORDS)
    if name in ("n0", "n1"):
        return source.choice((1, 1, 2, 2, 3, 4, 1000))
    if name == "turns":
        return source.choice((0, 1, 2, 3, 10 ** 9))
    if name == "k999":
        return source.choice((0, 0, 1, 1, 2, 3, 4, 999))
    return source.randint(0, {"k": 3, "how": 2, "order": 5, "cond": 6, "bit": 1}[name])


def a_call(source, places=COMMON):
    place = source.choice(places)
    key = source.choice(KEYS)
    numbers = []
    for name in SHAPES[place].split():
        numbers.append(key[name == "kd"] if name in ("kn", "kd") else a_number(source, name))
    if place == 2:
        numbers[1] = source.choice(PATTERNS)
        numbers[2] = source.choice((numbers[2], numbers[1] & numbers[2]))
    if numbers and source.randrange(25) == 0:
        numbers[source.randrange(len(numbers))] = source.choice(WRONG)
    return (place, *numbers)


def blemish(source, numbers):
    """The numbers, but for one change."""
    at = source.randrange(len(numbers) + 1)
    kind = source.randrange(5)
    if kind == 0:
        return numbers[:at] + numbers[at + 1:]
    if kind == 1:
        return numbers[:at] + [source.choice((0, 1, 2, 5, 63, 64))] + numbers[at:]
    if kind == 2:
        return numbers[:at]
    # Most of these stay of the form: another id, key, need, side, pattern, count.
    nearer = [number + source.choice((-1, 1)) for number in numbers[at:at + 1]]
    other = [source.choice(numbers + list(WRONG)) for number in numbers[at:at + 1]]
    return numbers[:at] + (nearer if kind == 3 else other) + numbers[at + 1:]


def a_load(source, told):
    """A load of what is told, or of nearly that."""
    word, lists = told[0], unframed(told[1:])
    if source.randrange(4):
        at = source.randrange(5)
        if at == 4:
            word = source.choice(WORDS + (-1, 2 ** 59))
        else:
            lists[at] = blemish(source, lists[at])
    return load(word, *lists)


def calls_of_all_kinds(seed):
    """150 calls; each load is made of what the rooms could tell at some time."""
    source = random.Random(seed)
    model = Model()
    calls, tellings, left = [], [[0] * 5], 4100
    while len(calls) < 150:
        call = a_call(source, COMMON if source.randrange(3) else QUESTIONS)
        if source.randrange(12) == 0:
            call = a_load(source, source.choice(tellings))
        if source.randrange(150) == 0:
            call = (23,)
        if call[0] != 22 or len(call) - 6 <= left:
            left -= len(call) - 6 if call[0] == 22 else 0
            calls.append(call)
            model.call(*call)
            tellings = (tellings + [model.told()])[-20:]
    return calls


def emptying():
    """Calls that tell what is left at the end."""
    chains = [(4, c, 0, 1000, 0, 0, 1) for c in (0, 1, 2, 63)]
    points = [(12, m, kn, kd) for m in (0, 1, 2, 63) for kn, kd in KEYS]
    return chains + points + [(14, x) for x in range(1, 41)]


class Beside(unittest.TestCase):
    def test_many_lists(self):
        for seed in range(300):
            source = random.Random(seed)
            calls = [a_call(source) for call in range(150)] + emptying()
            self.assertEqual(run(calls), model_answers(calls), seed)

    def test_many_lists_of_all_kinds(self):
        loads = []
        for seed in range(400):
            calls = calls_of_all_kinds(seed)
            told = run(calls)
            self.assertEqual(told, model_answers(calls), seed)
            loads += [one for call, one in zip(calls, told, strict=True) if call[0] == 22]
        # Both ways are gone often.
        for one in ([0, 0], [-2], [-1]):
            self.assertGreater(loads.count(one), 100)

    def test_one_of_each_in_any_order(self):
        for seed in range(200):
            calls = FURNISHED + random.Random(seed).sample(ONE_OF_EACH, 29) + [(21,)]
            self.assertEqual(run(calls), model_answers(calls), seed)

    def test_told_is_loaded_again(self):
        for seed in range(100):
            source = random.Random(seed)
            calls = [a_call(source) for call in range(74)]
            after = [a_call(source) for call in range(74)] + [(21,)]
            told = run(calls + [(21,)])[-1]
            plain = run(calls + after)[74:]
            self.assertEqual(run([(22, *told)] + after), [[0, 0]] + plain, seed)
            self.assertEqual(run(after + [(22, *told)] + after)[75:], [[0, 0]] + plain, seed)

    def test_long_chains(self):
        for seed in range(6):
            source = random.Random(seed)
            calls = [(3, x % 2, x, source.randrange(6), source.randint(-9, 9), source.randint(1, 9))
                     for x in range(1, 401)]
            for step in range(40):
                calls.append((5, *source.choice(((0, 1), (1, 0), (0, 0), (1, 1))), source.randrange(2),
                              source.choice((5, 50, 1000)), source.randrange(7), source.randint(-9, 9),
                              source.randint(1, 9), source.randrange(6)))
            calls += [(4, 0, 0, 1000, 0, 0, 1), (4, 1, 0, 1000, 0, 0, 1)]
            self.assertEqual(run(calls), model_answers(calls), seed)


if __name__ == "__main__":
    unittest.main()

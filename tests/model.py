"""The rooms once more, as literally as the document's sentences say them, to compare with."""

from fractions import Fraction

RANGES = {
    "w": (0, 2 ** 59 - 1), "k": (0, 58), "how": (0, 2), "x": (1, 10 ** 9), "place": (0, 63),
    "order": (0, 5), "cond": (0, 6), "bit": (0, 1), "n1": (1, 1000), "n0": (0, 1000), "turns": (0, 10 ** 9),
    "k999": (0, 999), "kn": (-10 ** 18, 10 ** 18), "kd": (1, 10 ** 18),
}
SHAPES = [
    "w", "k how", "x w w", "place x order kn kd", "place bit n1 cond kn kd",
    "place place bit n1 cond kn kd order", "place bit", "place turns", "place", "place place",
    "place place n0", "place x n1 kn kd", "place kn kd", "place x bit kn kd", "x",
    "", "place", "place", "place", "x", "place cond kn kd", "", "w", "", "w", "place", "", "place k999", "x",
]
BESIDE = {
    0: lambda own, told: True, 1: lambda own, told: own == told, 2: lambda own, told: own < told,
    3: lambda own, told: own > told, 4: lambda own, told: own != told, 5: lambda own, told: own <= told,
    6: lambda own, told: own >= told,
}
IN_FRONT_OF = {2: BESIDE[3], 3: BESIDE[6], 4: BESIDE[2], 5: BESIDE[5]}


class Model:
    def __init__(self):
        self.on = [False] * 59
        self.watchers = []
        self.chains = [[] for c in range(64)]
        self.points = [[] for m in range(64)]
        self.doors = [[] for d in range(64)]

    def call(self, place, *numbers):
        lists = []
        if place == 22:
            numbers, lists = numbers[:1], unframed(numbers[1:])
        for name, number in zip(SHAPES[place].split(), numbers, strict=True):
            if not RANGES[name][0] <= number <= RANGES[name][1]:
                return [-1]
        return CALLS[place](self, *numbers, *lists)

    def waits(self, x):
        lists = [self.watchers, *self.chains, *self.points, *self.doors]
        return any(one[0] == x for waiters in lists for one in waiters)

    def stands(self, mask, value):
        return all(self.on[k] == (value // 2 ** k % 2 == 1) for k in range(59) if mask // 2 ** k % 2 == 1)

    def release(self):
        gone = [one for one in self.watchers if self.stands(one[1], one[2])]
        self.watchers = [one for one in self.watchers if one not in gone]
        return [0, len(gone)] + [one[0] for one in gone]

    def put(self, w):
        self.on = [w // 2 ** k % 2 == 1 for k in range(59)]
        return self.release()

    def set(self, k, how):
        self.on[k] = (False, True, not self.on[k])[how]
        return self.release()

    def watch(self, x, mask, value):
        if self.waits(x):
            return [-3]
        if any(value // 2 ** k % 2 == 1 and mask // 2 ** k % 2 == 0 for k in range(59)):
            return [-4]
        if self.stands(mask, value):
            return [0, 1, x]
        if len(self.watchers) == 1000:
            return [-5]
        self.watchers.append((x, mask, value))
        return [1]

    def place_entry(self, chain, entry, order):
        spots = [len(chain)]
        if order == 1:
            spots = [0]
        if order >= 2:
            spots = [i for i, other in enumerate(chain) if IN_FRONT_OF[order](other[1], entry[1])] + spots
        chain.insert(spots[0], entry)

    def link(self, c, x, order, kn, kd):
        if self.waits(x):
            return [-3]
        if len(self.chains[c]) == 1000:
            return [-5]
        self.place_entry(self.chains[c], (x, Fraction(kn, kd)), order)
        return [1]

    def met(self, c, back, n, cond, kn, kd):
        walk = self.chains[c][::-1] if back else self.chains[c]
        return [entry for entry in walk if BESIDE[cond](entry[1], Fraction(kn, kd))][:n]

    def unlink(self, c, back, n, cond, kn, kd):
        met = self.met(c, back, n, cond, kn, kd)
        for entry in met:
            self.chains[c].remove(entry)
        return [0, len(met)] + [entry[0] for entry in met]

    def move(self, c, d, back, n, cond, kn, kd, order):
        met = self.met(c, back, n, cond, kn, kd)
        if c != d and len(self.chains[d]) + len(met) > 1000:
            return [-5]
        for entry in met:
            self.chains[c].remove(entry)
        for entry in met:
            self.place_entry(self.chains[d], entry, order)
        return [0, len(met)] + [entry[0] for entry in met]

    def sort(self, c, falling):
        sign = -1 if falling else 1
        numbered = [(sign * entry[1], i, entry) for i, entry in enumerate(self.chains[c])]
        self.chains[c] = [entry for key, i, entry in sorted(numbered)]
        return [0, 0]

    def rotate(self, c, n):
        for turn in range(n % max(1, len(self.chains[c]))):
            self.chains[c].append(self.chains[c].pop(0))
        return [0, 0]

    def reverse(self, c):
        self.chains[c].reverse()
        return [0, 0]

    def merge(self, c, d):
        if c == d:
            return [-4]
        ours, theirs = self.chains[c], self.chains[d]
        if len(ours) + len(theirs) > 1000:
            return [-5]
        new = []
        while ours and theirs:
            new.append(theirs.pop(0) if theirs[0][1] < ours[0][1] else ours.pop(0))
        self.chains[c], self.chains[d] = new + ours + theirs, []
        return [0, 0]

    def cut(self, c, d, n):
        if c == d:
            return [-4]
        if len(self.chains[d]) + max(0, len(self.chains[c]) - n) > 1000:
            return [-5]
        while len(self.chains[c]) > n:
            self.chains[d].append(self.chains[c].pop(n))
        return [0, 0]

    def arrive(self, m, x, n, kn, kd):
        if self.waits(x):
            return [-3]
        group = [guest for guest in self.points[m] if guest[1] == Fraction(kn, kd)]
        need = group[0][2] if group else n
        if len(group) + 1 == need:
            return [0, need] + self.dissolve(m, kn, kd)[2:] + [x]
        if len(self.points[m]) == 1000:
            return [-5]
        self.points[m].append((x, Fraction(kn, kd), need))
        return [1]

    def dissolve(self, m, kn, kd):
        gone = [guest for guest in self.points[m] if guest[1] == Fraction(kn, kd)]
        self.points[m] = [guest for guest in self.points[m] if guest not in gone]
        return [0, len(gone)] + [guest[0] for guest in gone]

    def pair(self, d, x, side, kn, kd):
        if self.waits(x):
            return [-3]
        for caller in self.doors[d]:
            if caller[1] == Fraction(kn, kd) and caller[2] == 1 - side:
                self.doors[d].remove(caller)
                return [0, 2, caller[0], x]
        if len(self.doors[d]) == 1000:
            return [-5]
        self.doors[d].append((x, Fraction(kn, kd), side))
        return [1]

    def leave(self, x):
        for waiters in [self.watchers, *self.chains, *self.points, *self.doors]:
            for one in waiters:
                if one[0] == x:
                    waiters.remove(one)
                    return [0, 0]
        return [-10]

    def word(self):
        return sum(2 ** k for k in range(59) if self.on[k])

    def switches(self):
        return [self.word(), 3 * len(self.watchers)] + [number for one in self.watchers for number in one]

    def tell(self, waiters):
        told = [len(waiters)]
        for x, key, *more in waiters:
            told += [x, key.numerator, key.denominator, *more]
        return told

    def chain(self, c):
        return self.tell(self.chains[c])

    def point(self, m):
        return self.tell(self.points[m])

    def door(self, d):
        return self.tell(self.doors[d])

    def place(self, x):
        for what, places in ((1, [self.watchers]), (2, self.chains), (3, self.points), (4, self.doors)):
            for number, waiters in enumerate(places):
                for in_front, one in enumerate(waiters):
                    if one[0] == x:
                        return [what, number, in_front]
        return [0, 0, 0]

    def count(self, c, cond, kn, kd):
        return [sum(BESIDE[cond](entry[1], Fraction(kn, kd)) for entry in self.chains[c])]

    def told(self):
        told = self.switches()
        for places in (self.chains, self.points, self.doors):
            numbers = []
            for number, waiters in enumerate(places):
                if waiters:
                    numbers += [number] + self.tell(waiters)
            told += [len(numbers)] + numbers
        return told

    def load(self, w, watchers, chains, points, doors):
        """As the first of the sentences on load has it: calls that bring such rooms about are looked for."""
        other = Model()
        other.put(w)
        coming = [(2, *row) for row in rows_of(watchers, 3)]
        coming += [(3, number, row[0], 0, *row[1:]) for number, row in rows_by_part(chains, 3)]
        coming += [(11, number, row[0], row[3], *row[1:3]) for number, row in rows_by_part(points, 4)]
        coming += [(13, number, row[0], row[3], *row[1:3]) for number, row in rows_by_part(doors, 4)]
        if any(other.call(*call) != [1] for call in coming):
            return [-2]
        told = [w]
        for numbers in (watchers, chains, points, doors):
            told += [len(numbers), *numbers]
        if other.told() != told:
            return [-2]
        vars(self).update(vars(other))
        return [0, 0]

    def clear(self):
        self.__init__()
        return [0, 0]

    def could(self, w):
        kept, watchers = self.on, self.watchers
        told = self.put(w)
        self.on, self.watchers = kept, watchers
        return told

    def disorder(self, c):
        keys = [entry[1] for entry in self.chains[c]]
        return [sum(keys[i] > keys[j] for j in range(len(keys)) for i in range(j))]

    def counts(self):
        return [len(self.watchers)] + [sum(map(len, places)) for places in (self.chains, self.points, self.doors)]

    def before(self, entry, c):
        """How many stand before it in the sorted chain: the lesser ones and, of equals, those in front."""
        at = self.chains[c].index(entry)
        return sum(other[1] < entry[1] or (other[1] == entry[1] and i < at)
                   for i, other in enumerate(self.chains[c]))

    def kth(self, c, k):
        for entry in self.chains[c]:
            if self.before(entry, c) == k:
                return self.tell([entry])[1:]
        return [-6]

    def rank(self, x):
        for c, chain in enumerate(self.chains):
            for entry in chain:
                if entry[0] == x:
                    return [self.before(entry, c)]
        return [-10]


def unframed(numbers):
    """The lists that stand one behind another, each with its length before it."""
    lists = []
    while numbers:
        lists.append(list(numbers[1:1 + numbers[0]]))
        numbers = numbers[1 + numbers[0]:]
    return lists


def rows_of(numbers, length):
    """Whole rows; what is left over is missed when told is compared."""
    return [tuple(numbers[i:i + length]) for i in range(0, len(numbers) - length + 1, length)]


def rows_by_part(numbers, length):
    """Each whole row with its part's number; what is left over is missed when told is compared."""
    found = []
    at = 0
    while at + 1 < len(numbers) and numbers[at + 1] > 0:
        end = at + 2 + numbers[at + 1] * length
        found += [(numbers[at], row) for row in rows_of(numbers[at + 2:end], length)]
        at = end
    return found


CALLS = [
    Model.put, Model.set, Model.watch, Model.link, Model.unlink, Model.move, Model.sort, Model.rotate,
    Model.reverse, Model.merge, Model.cut, Model.arrive, Model.dissolve, Model.pair, Model.leave,
    Model.switches, Model.chain, Model.point, Model.door, Model.place, Model.count, Model.told,
    Model.load, Model.clear, Model.could, Model.disorder, Model.counts, Model.kth, Model.rank,
]


def model_answers(calls):
    model = Model()
    return [model.call(*call) for call in calls]

"""Keys: fractions in lowest terms, compared by their worth."""

# 10 to the 36th: the product of the two greatest denominators.
SCALE = 1000000000000000000000000000000000000


def common_divisor(top, bottom):
    """The greatest number that divides both; bottom is above 0."""
    divisor = bottom
    rest = abs(top)
    while rest > 0:
        left = divisor % rest
        divisor = rest
        rest = left
    return divisor


class Key:
    """A fraction, and a whole number by which fractions compare."""

    def __init__(self, top, bottom):
        shared = common_divisor(top, bottom)
        self.top = top // shared
        self.bottom = bottom // shared
        # Fractions that differ lie at least 1 over SCALE apart. So, scaled
        # and rounded down, they still differ, and in the same direction.
        self.worth = self.top * SCALE // self.bottom

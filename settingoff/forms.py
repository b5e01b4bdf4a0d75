"""Which numbers and lists the calls have, and the ranges that numbers may be in."""

RANGES = {
    "word": (0, 576460752303423487),
    "switch": (0, 58),
    "how": (0, 2),
    "number": (0, 63),
    "who": (1, 1000000000),
    "order": (0, 5),
    "cond": (0, 6),
    "flag": (0, 1),
    "many": (1, 1000),
    "kept": (0, 1000),
    "before": (0, 999),
    "need": (2, 1000),
    "turns": (0, 1000000000),
    "top": (-1000000000000000000, 1000000000000000000),
    "bottom": (1, 1000000000000000000),
}

FORMS = {
    0: ("word",),
    1: ("switch", "how"),
    2: ("who", "word", "word"),
    3: ("number", "who", "order", "top", "bottom"),
    4: ("number", "flag", "many", "cond", "top", "bottom"),
    5: ("number", "number", "flag", "many", "cond", "top", "bottom", "order"),
    6: ("number", "flag"),
    7: ("number", "turns"),
    8: ("number",),
    9: ("number", "number"),
    10: ("number", "number", "kept"),
    11: ("number", "who", "many", "top", "bottom"),
    12: ("number", "top", "bottom"),
    13: ("number", "who", "flag", "top", "bottom"),
    14: ("who",),
    15: (),
    16: ("number",),
    17: ("number",),
    18: ("number",),
    19: ("who",),
    20: ("number", "cond", "top", "bottom"),
    21: (),
    22: ("word",),
    23: (),
    24: ("word",),
    25: ("number",),
    26: (),
    27: ("number", "before"),
    28: ("who",),
}

LISTS = {22: 4}

# What stands in load's lists, row by row.
ROWS = {
    "watcher": ("who", "word", "word"),
    "entry": ("who", "top", "bottom"),
    "guest": ("who", "top", "bottom", "need"),
    "caller": ("who", "top", "bottom", "flag"),
    "part": ("number", "many"),
}


def how_many_numbers(place):
    """How many numbers stand behind the call's place."""
    return len(FORMS[place])


def how_many_lists(place):
    """How many lists stand behind the call's numbers."""
    return LISTS.get(place, 0)


def row_length(kind):
    """How many numbers a row of this kind has."""
    return len(ROWS[kind])


def in_ranges(names, numbers):
    """Whether there is one number for each name, in the range of that name."""
    if len(names) != len(numbers):
        return False
    for name, number in zip(names, numbers):
        if number < RANGES[name][0] or number > RANGES[name][1]:
            return False
    return True


def call_in_range(place, numbers):
    """Whether each number of the call is in its range."""
    return in_ranges(FORMS[place], numbers)


def row_in_range(kind, row):
    """Whether a row of this kind is whole and each of its numbers in its range."""
    return in_ranges(ROWS[kind], row)

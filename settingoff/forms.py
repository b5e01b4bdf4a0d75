"""Which numbers each call has, and the ranges that they may be in."""

RANGES = {
    "word": (0, 576460752303423487),
    "switch": (0, 58),
    "how": (0, 2),
    "number": (0, 63),
    "who": (1, 1000000000),
    "order": (0, 5),
    "cond": (0, 6),
    "flag": (0, 1),
    "many": (1, 1000),
    "kept": (0, 1000),
    "turns": (0, 1000000000),
    "top": (-1000000000000000000, 1000000000000000000),
    "bottom": (1, 1000000000000000000),
}

FORMS = {
    0: ("word",),
    1: ("switch", "how"),
    2: ("who", "word", "word"),
    3: ("number", "who", "order", "top", "bottom"),
    4: ("number", "flag", "many", "cond", "top", "bottom"),
    5: ("number", "number", "flag", "many", "cond", "top", "bottom", "order"),
    6: ("number", "flag"),
    7: ("number", "turns"),
    8: ("number",),
    9: ("number", "number"),
    10: ("number", "number", "kept"),
    11: ("number", "who", "many", "top", "bottom"),
    12: ("number", "top", "bottom"),
    13: ("number", "who", "flag", "top", "bottom"),
    14: ("who",),
}


def how_many_numbers(place):
    """How many numbers stand behind the call's place."""
    return len(FORMS[place])


def all_in_range(place, numbers):
    """Whether each number of the call is in its range."""
    for name, number in zip(FORMS[place], numbers):
        if number < RANGES[name][0] or number > RANGES[name][1]:
            return False
    return True

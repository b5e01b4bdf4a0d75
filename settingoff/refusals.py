"""The numbers that refused calls answer, and the room there is."""

OUT_OF_RANGE = -1
WRONG_LISTS = -2
WAITS_ALREADY = -3
NEVER_OR_SAME = -4
NO_ROOM = -5
NO_ENTRY = -6
NOT_WAITING = -10

ROOM = 1000

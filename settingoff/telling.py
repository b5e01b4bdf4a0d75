"""The questions that tell what the rooms hold."""


def watchers_told(watchers):
    """Three numbers for each watcher."""
    numbers = []
    for watcher in watchers:
        numbers.extend([watcher.who, watcher.mask, watcher.value])
    return numbers


def entry_told(entry):
    """An entry's three numbers."""
    return [entry.who, entry.key.top, entry.key.bottom]


def chain_told(entries):
    """How many entries, and three numbers for each."""
    numbers = [len(entries)]
    for entry in entries:
        numbers.extend(entry_told(entry))
    return numbers


def point_told(guests):
    """How many guests, and four numbers for each."""
    numbers = [len(guests)]
    for guest in guests:
        numbers.extend([guest.who, guest.key.top, guest.key.bottom, guest.need])
    return numbers


def door_told(callers):
    """How many callers, and four numbers for each."""
    numbers = [len(callers)]
    for caller in callers:
        numbers.extend([caller.who, caller.key.top, caller.key.bottom, caller.side])
    return numbers


def with_length(numbers):
    """The numbers, and before them how many they are."""
    return [len(numbers)] + numbers


def parts_told(tellings):
    """For each place that isn't empty its number and what is told of it."""
    numbers = []
    for number, telling in enumerate(tellings):
        if telling[0] > 0:
            numbers.append(number)
            numbers.extend(telling)
    return numbers


def switches_told(rooms):
    """The word and the watchers' list."""
    return [rooms.word] + with_length(watchers_told(rooms.watchers))


def all_told(rooms):
    """The word and all four lists."""
    chains = parts_told([chain_told(entries) for entries in rooms.chains])
    points = parts_told([point_told(guests) for guests in rooms.points])
    doors = parts_told([door_told(callers) for callers in rooms.doors])
    return switches_told(rooms) + with_length(chains) + with_length(points) + with_length(doors)


def how_many(places):
    """How many wait at all these places together."""
    return sum([len(waiters) for waiters in places])


def counts_told(rooms):
    """How many wait at each kind of place."""
    return [len(rooms.watchers), how_many(rooms.chains), how_many(rooms.points), how_many(rooms.doors)]

"""Rooms from which a hand forces the walk to a goal, whatever the other hand does."""


def pulled(hall, hand, goal):
    """For each room the steps within which the hand forces the walk to the goal, or None."""
    rooms = list(range(len(hall)))
    steps = drawn(hall, rooms, hand, goal)
    return [steps.get(room) for room in rooms]


def drawn(hall, rooms, hand, goal):
    """A dict with the steps of the rooms from which the hand forces a walk that stays in these rooms to the goal."""
    ways = ways_within(hall, rooms)
    entries = entries_of(ways)
    waiting = dict([(room, len(ways[room])) for room in rooms])
    steps = dict([(room, 0) for room in goal])
    queue = list(steps)
    spot = 0
    # The queue rises by steps: so the first way of the hand that is drawn has the fewest,
    # and the last way of the other hand the most.
    while spot < len(queue):
        room = queue[spot]
        spot = spot + 1
        for entry in entries[room]:
            waiting[entry] = waiting[entry] - 1
            if entry not in steps and (hall[entry][0] == hand or waiting[entry] == 0):
                steps[entry] = steps[room] + 1
                queue.append(entry)
    return steps


def ways_within(hall, rooms):
    """For each of these rooms the list of its ways that lead to one of them."""
    inside = dict([(room, True) for room in rooms])
    ways = {}
    for room in rooms:
        ways[room] = [way for way in hall[room][2] if way in inside]
    return ways


def entries_of(ways):
    """For each room of the ways the list of rooms that lead to it."""
    entries = dict([(room, []) for room in ways])
    for room in ways:
        for way in ways[room]:
            entries[way].append(room)
    return entries

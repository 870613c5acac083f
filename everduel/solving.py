"""Which hand wins from each room of a hall, and by which moves."""

from everduel.pulling import drawn, ways_within


def solved(hall):
    """For each room the hand that wins from there, and its move where it moves there, else None."""
    rooms = list(range(len(hall)))
    told = settled(hall, rooms, {})
    return ([told[room][0] for room in rooms], [told[room][1] for room in rooms])


def settled(hall, rooms, known):
    """For each of these rooms, where the walk stays in them, the pair of the winning hand and its move or None."""
    # The same few rooms are asked for over and over; without what is known, hard halls take far longer.
    key = tuple(rooms)
    if key not in known:
        told = {}
        left = rooms
        while len(left) > 0:
            told.update(won_part(hall, left, known))
            left = [room for room in left if room not in told]
        known[key] = told
    return known[key]


def won_part(hall, rooms, known):
    """The pairs of all rooms that one of the hands is found to win, at least one room.

    The other hand can't leave them for the rooms that are left, so these are settled by themselves.
    """
    top = max([hall[room][1] for room in rooms])
    hand = top % 2
    near = drawn(hall, rooms, hand, [room for room in rooms if hall[room][1] == top])
    inner = settled(hall, [room for room in rooms if room not in near], known)
    lost = [room for room in inner if inner[room][0] != hand]
    if len(lost) == 0:
        # Whatever comes, the walk comes again and again to the top rank, or stays in the inner rooms.
        told = dict(inner)
        told.update(led(hall, rooms, hand, near))
        return told
    told = led(hall, rooms, 1 - hand, drawn(hall, rooms, 1 - hand, lost))
    for room in lost:
        told[room] = inner[room]
    return told


def led(hall, rooms, hand, steps):
    """The pairs of the rooms of the steps, where the hand moves towards the goal, and in the goal anywhere."""
    ways = ways_within(hall, rooms)
    told = {}
    for room in steps:
        told[room] = (hand, move_from(room, ways[room], steps) if hall[room][0] == hand else None)
    return told


def move_from(room, ways, steps):
    """The first of the ways that has a step less, in the goal the first one."""
    if steps[room] == 0:
        return ways[0]
    return [way for way in ways if steps.get(way) == steps[room] - 1][0]

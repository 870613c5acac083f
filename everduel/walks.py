"""Walks where both hands move by moves told once and for all."""

from everduel.errors import BadMove, NoRoom
from everduel.halls import is_room


def walk(hall, start, moves):
    """The rooms ahead of the round and the rooms of the round; NoRoom, then BadMove."""
    if not is_room(hall, start):
        raise NoRoom("the start is no room of the hall")
    look_at_moves(hall, moves)
    came = {}
    room = start
    while room not in came:
        came[room] = len(came)
        room = moves[room]
    path = list(came)
    return (path[:came[room]], path[came[room]:])


def look_at_moves(hall, moves):
    """Refuse a move that is no way of its room, whether a walk comes there or not."""
    for room, (hand, rank, ways) in enumerate(hall):
        if moves[room] not in ways:
            raise BadMove(f"the move of room {room} is no way of it")


def winner(hall, rooms):
    """The hand that wins where just these rooms come again and again."""
    return max([hall[room][1] for room in rooms]) % 2

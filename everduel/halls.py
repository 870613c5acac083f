"""Halls: looked through, written as a text, read from a text."""

from everduel.errors import BadText, NoRoom, NotRising, NoWay

MOST_ROWS = 80
FIGURES = "0123456789"
HANDS = {"0": 0, "1": 1}
RANKS = {"0:": 0, "1:": 1, "2:": 2, "3:": 3, "4:": 4, "5:": 5, "6:": 6, "7:": 7}


def is_room(hall, number):
    """Whether the number is that of a room of the hall."""
    return number >= 0 and number < len(hall)


def looked(hall):
    """How many rooms the hall has; NoWay, NoRoom or NotRising at its first fault."""
    for room, (hand, rank, ways) in enumerate(hall):
        if len(ways) == 0:
            raise NoWay(f"room {room} has no way")
        look_at_ways(hall, room, ways)
    return len(hall)


def look_at_ways(hall, room, ways):
    """Refuse the first way that is no room or does not rise."""
    # The errors name the room and not the way: a way may have more figures than Python writes.
    ahead = -1
    for way in ways:
        if not is_room(hall, way):
            raise NoRoom(f"a way of room {room} is no room of the hall")
        if way <= ahead:
            raise NotRising(f"the ways of room {room} do not rise")
        ahead = way


def shown(hall):
    """The text of a hall, also of one that is refused by looked."""
    rows = []
    for hand, rank, ways in hall:
        rows.append(f"{hand} {rank}:" + "".join([f" {way}" for way in ways]))
    return "\n".join(rows)


def read(text):
    """The hall that the text writes; BadText, then the refusals of looked."""
    # No splitlines: it would forgive a line end behind the last row.
    rows = text.split("\n")
    if len(rows) > MOST_ROWS:
        raise BadText(f"more than {MOST_ROWS} rows")
    hall = []
    for number, row in enumerate(rows):
        words = row.split(" ")
        if not is_row(words):
            raise BadText(f"row {number} does not write a room")
        hall.append((HANDS[words[0]], RANKS[words[1]], tuple([int(word) for word in words[2:]])))
    looked(hall)
    return hall


def is_row(words):
    """Whether these words, with a blank between each two, write a room."""
    if len(words) < 3 or words[0] not in HANDS or words[1] not in RANKS:
        return False
    return all([is_way(word) for word in words[2:]])


def is_way(word):
    """Whether the word is one or two figures without a nought ahead."""
    # Asked sign by sign, as int would also take a plus, a minus, a tab and an underscore.
    if len(word) < 1 or len(word) > 2 or any([sign not in FIGURES for sign in word]):
        return False
    return len(word) == 1 or word[0] != "0"

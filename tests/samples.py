"""Halls, worlds and statements for the tests, and own reckonings that share nothing with the program."""

NAMES = ("X", "Y", "Z", "U")


def refusal_of(asked, *given):
    """The very class that is raised, or None."""
    try:
        asked(*given)
    except Exception as error:
        return type(error)
    return None


def some_hall(rng, size, most_ways=3, ranks=8):
    """A hall by chance."""
    hall = []
    for _ in range(size):
        ways = rng.sample(range(size), min(size, rng.randint(1, most_ways)))
        hall.append((rng.randrange(2), rng.randrange(ranks), tuple(sorted(ways))))
    return hall


def some_world(rng, size):
    """A world by chance, also with places without ways."""
    world = []
    for _ in range(size):
        marks = "".join(mark for mark in "pqr" if rng.randrange(2))
        ways = rng.sample(range(size), rng.randint(0, min(size, 3)))
        world.append((marks, tuple(sorted(ways))))
    return world


def some_saying(rng, deep, bound=(), most_bound=4):
    """A statement by chance that is let through, at most so deep."""
    kinds = ["yes", "no", "mark", "mark", "unmark", "unmark"] + ["name"] * (4 * len(bound))
    if deep > 1:
        kinds = ["name"] * min(1, len(bound)) + ["mark"] + ["some", "every", "both", "either"] * 2
        if len(bound) < most_bound:
            kinds += ["least", "most"] * 3
    kind = rng.choice(kinds)
    if kind in ("yes", "no"):
        return (kind,)
    if kind in ("mark", "unmark"):
        return (kind, rng.choice("pqr"))
    if kind == "name":
        return (kind, rng.choice(bound))
    if kind in ("some", "every"):
        return (kind, some_saying(rng, deep - 1, bound, most_bound))
    if kind in ("both", "either"):
        left = some_saying(rng, deep - 1, bound, most_bound)
        return (kind, left, some_saying(rng, deep - 1, bound, most_bound))
    name = rng.choice([each for each in NAMES if each not in bound])
    return (kind, name, some_saying(rng, deep - 1, bound + (name,), most_bound))


def some_short_saying(rng, most_parts=13, most_bound=4):
    """A statement by chance with a least or most in it and no more than so many parts."""
    while True:
        saying = some_saying(rng, rng.randint(2, 7), (), most_bound)
        kinds = [part[0] for path, part in own_parts(saying)]
        if len(kinds) <= most_parts and ("least" in kinds or "most" in kinds):
            return saying


def own_parts(saying, path=()):
    """All parts in the order of the text, each with the spots that lead to it from the whole statement."""
    rows = [(path, saying)]
    for spot, part in enumerate(saying):
        if type(part) is tuple:
            rows += own_parts(part, path + (spot,))
    return rows


def own_places(world, saying, env):
    """The set of the places where the statement holds; least and most are sought among all sets of places."""
    kind, places = saying[0], frozenset(range(len(world)))
    if kind == "yes":
        return places
    if kind == "no":
        return frozenset()
    if kind == "mark":
        return frozenset(w for w in places if saying[1] in world[w][0])
    if kind == "unmark":
        return frozenset(w for w in places if saying[1] not in world[w][0])
    if kind == "name":
        return env[saying[1]]
    if kind in ("some", "every"):
        inner = own_places(world, saying[1], env)
        if kind == "some":
            return frozenset(w for w in places if inner & set(world[w][1]))
        return frozenset(w for w in places if inner >= set(world[w][1]))
    if kind in ("both", "either"):
        left, right = own_places(world, saying[1], env), own_places(world, saying[2], env)
        return left & right if kind == "both" else left | right
    steady = []
    for code in range(2 ** len(world)):
        chosen = frozenset(w for w in places if code >> w & 1)
        if own_places(world, saying[2], {**env, saying[1]: chosen}) == chosen:
            steady.append(chosen)
    if kind == "least":
        [found] = [each for each in steady if all(each <= other for other in steady)]
    else:
        [found] = [each for each in steady if all(each >= other for other in steady)]
    return found


def own_true_at(world, saying):
    """What point 9 asks for."""
    found = own_places(world, saying, {})
    return [w in found for w in range(len(world))]


def own_hall_of(world, saying):
    """What point 13 asks for, room by room."""
    parts = own_parts(saying)
    number_of = {path: number for number, (path, part) in enumerate(parts)}
    size = len(parts)
    hall = {}
    for place, (marks, roads) in enumerate(world):
        for path, part in parts:
            kind, here, own = part[0], place * size, place * size + number_of[path]
            hand, rank = 0, 0
            if kind in ("both", "either"):
                ways = (here + number_of[path + (1,)], here + number_of[path + (2,)])
                hand = int(kind == "both")
            elif kind in ("some", "every") and roads:
                ways = tuple(road * size + number_of[path + (1,)] for road in roads)
                hand = int(kind == "every")
            elif kind in ("least", "most"):
                ways = (here + number_of[path + (2,)],)
                rank = own_rank(part)
            elif kind == "name":
                ways = (here + number_of[own_binder(parts, path, part[1])],)
            else:
                ways = (own,)
                holds = {"yes": True, "no": False, "every": True, "some": False}
                if kind in ("mark", "unmark"):
                    holds[kind] = (part[1] in marks) == (kind == "mark")
                rank = 0 if holds[kind] else 1
            hall[own] = (hand, rank, ways)
    return [hall[own] for own in range(len(world) * size)]


def own_binder(parts, path, name):
    """The path of the least or most that binds the name that stands at a path."""
    found = [
        other for other, part in parts
        if part[0] in ("least", "most") and part[1] == name and path[:len(other)] == other
    ]
    return max(found, key=len)


def own_rank(part):
    """The rank of a least or most, sought from nought on."""
    inner = [own_rank(each) for path, each in own_parts(part)[1:] if each[0] in ("least", "most")]
    rank = 0
    while rank % 2 != int(part[0] == "least") or any(rank < each for each in inner):
        rank += 1
    return rank


def fault_of_solution(hall, told):
    """What is wrong with the hands and moves that are told for a hall, or None."""
    hands, moves = told
    if [type(told), type(hands), type(moves)] != [tuple, list, list]:
        return "no tuple of two lists"
    if len(hands) != len(hall) or len(moves) != len(hall):
        return "not one for each room"
    for room, (mover, _, ways) in enumerate(hall):
        if type(hands[room]) is not int or hands[room] not in (0, 1):
            return f"room {room}: no hand"
        if mover == hands[room] and (type(moves[room]) is not int or moves[room] not in ways):
            return f"room {room}: a move that is no way"
        if mover != hands[room] and moves[room] is not None:
            return f"room {room}: a move of the hand that loses"
    left = [(way,) if way is not None else hall[room][2] for room, way in enumerate(moves)]
    for room, ways in enumerate(left):
        if any(hands[way] != hands[room] for way in ways):
            return f"room {room}: the walk leaves the rooms of the hand that wins"
        if hall[room][1] % 2 != hands[room] and comes_back(hall, left, room):
            return f"room {room}: a round with a greatest rank of the other hand"
    return None


def comes_back(hall, left, start):
    """Whether the ways that are left lead from a room to itself through no greater rank than its own."""
    seen = set()
    edge = [start]
    while edge:
        for way in left[edge.pop()]:
            if way == start:
                return True
            if way not in seen and hall[way][1] <= hall[start][1]:
                seen.add(way)
                edge.append(way)
    return False

"""Where a statement holds in a world, and the hall that tells the same."""

from everduel.sayings import BINDERS, within


def true_at(world, saying):
    """For each place of the world whether the statement holds there."""
    return holding(world, saying, {})


def holding(world, saying, named):
    """For each place whether the statement holds there, where named tells the places that the names stand for."""
    kind = saying[0]
    if kind == "name":
        return list(named[saying[1]])
    if kind in BINDERS:
        return closed(world, saying, named)
    if kind in ("some", "every"):
        inner = holding(world, saying[1], named)
        return [led_on(kind, [inner[way] for way in ways]) for marks, ways in world]
    if kind in ("both", "either"):
        left = holding(world, saying[1], named)
        right = holding(world, saying[2], named)
        if kind == "both":
            return [one and two for one, two in zip(left, right)]
        return [one or two for one, two in zip(left, right)]
    return [holds_by_itself(saying, marks) for marks, ways in world]


def led_on(kind, found):
    """Whether a some or every holds at a place by what is found at the ends of its ways."""
    return any(found) if kind == "some" else all(found)


def holds_by_itself(saying, marks):
    """Whether a yes, no, mark or unmark holds at a place with these marks."""
    if saying[0] == "mark":
        return saying[1] in marks
    if saying[0] == "unmark":
        return saying[1] not in marks
    return saying[0] == "yes"


def closed(world, saying, named):
    """For each place whether the least or most holds there."""
    # No statement holds at fewer places where a name stands for more: so from nowhere the places
    # only grow up to the least ones, and from everywhere they only shrink down to the most.
    inner = dict(named)
    inner[saying[1]] = [saying[0] == "most" for place in world]
    found = holding(world, saying[2], inner)
    while found != inner[saying[1]]:
        inner[saying[1]] = found
        found = holding(world, saying[2], inner)
    return found


def hall_of(world, saying):
    """The hall in which hand 0 wins from a place's first room just where the statement holds at that place."""
    parts = numbered(saying, 0, {})
    hall = []
    for place in range(len(world)):
        for part, leads in parts:
            ways = ways_from(world, place, part, leads, len(parts))
            if len(ways) == 0:
                hall.append((0, 0 if holds_at_the_end(part, world[place][0]) else 1, (len(hall),)))
            else:
                hall.append((hand_of(part), rank_of(part), ways))
    return hall


def numbered(saying, number, binders):
    """The parts from this number on, each with the tuple of the numbers of the parts to which it leads.

    The dict binders tells the numbers of the parts that bind the names round the statement.
    """
    if saying[0] == "name":
        return [(saying, (binders[saying[1]],))]
    inner = dict(binders)
    if saying[0] in BINDERS:
        inner[saying[1]] = number
    leads = []
    rows = []
    for part in within(saying):
        leads.append(number + 1 + len(rows))
        rows.extend(numbered(part, leads[-1], inner))
    return [(saying, tuple(leads))] + rows


def ways_from(world, place, part, leads, size):
    """The ways of the part's room at the place, none where it is to lead to itself."""
    if part[0] in ("some", "every"):
        return tuple([way * size + leads[0] for way in world[place][1]])
    return tuple([place * size + lead for lead in leads])


def holds_at_the_end(part, marks):
    """Whether a part whose room leads to itself holds at its place, which has these marks."""
    return part[0] == "every" or holds_by_itself(part, marks)


def hand_of(part):
    """The hand that moves at the rooms of the part that do not lead to themselves."""
    return 1 if part[0] in ("both", "every") else 0


def rank_of(part):
    """The rank of the rooms of the part that do not lead to themselves."""
    return greatest_rank(part) if part[0] in BINDERS else 0


def greatest_rank(saying):
    """The greatest rank of the least and most of the statement, itself among them; nought where there is none."""
    inner = max([greatest_rank(part) for part in within(saying)], default=0)
    if saying[0] == "least":
        return inner + 1 - inner % 2
    if saying[0] == "most":
        return inner + inner % 2
    return inner

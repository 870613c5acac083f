"""What point 1 promises over the whole program."""

import copy
import random
import unittest

from samples import some_hall, some_short_saying, some_world

from everduel.halls import looked, read, shown
from everduel.pulling import pulled
from everduel.sayings import looked_saying, read_saying, shown_saying, turned
from everduel.solving import solved
from everduel.walks import walk, winner
from everduel.worlds import hall_of, true_at

HALL = [(0, 1, (1, 2)), (1, 6, (0, 2)), (0, 2, (3,)), (1, 3, (2, 3))]
WORLD = [("p", (0, 1)), ("", ()), ("pq", (0, 1, 2))]

# The answers that are lists or hold lists; of statements that tell what a name stands for too.
ASKED = (
    (solved, (HALL,)),
    (solved, ([(0, 0, (0,))],)),
    (walk, (HALL, 0, [1, 2, 3, 2])),
    (walk, (HALL, 2, [1, 2, 3, 2])),
    (pulled, (HALL, 0, [2, 0])),
    (pulled, (HALL, 1, [])),
    (read, ("0 3: 0 1\n1 2: 1",)),
    (true_at, (WORLD, read_saying("p"))),
    (true_at, (WORLD, read_saying("1"))),
    (true_at, (WORLD, read_saying("-X.X"))),
    (true_at, (WORLD, read_saying("+X.([]X|-Y.(p&X))"))),
    (hall_of, (WORLD, read_saying("-X.(p|<>X)"))),
)


def lists_of(answer):
    """The lists that an answer is or holds."""
    if type(answer) is list:
        return [answer] + [found for part in answer for found in lists_of(part)]
    if type(answer) is tuple:
        return [found for part in answer for found in lists_of(part)]
    return []


class OwnListsTest(unittest.TestCase):
    def test_a_list_that_is_changed_changes_no_other_answer(self):
        for function, given in ASKED:
            expected = copy.deepcopy(function(*given))
            for spoil in (list.clear, list.reverse, lambda each: each.append("more"), lambda each: each.insert(0, 9)):
                for each in lists_of(function(*given)):
                    spoil(each)
                self.assertEqual(function(*given), expected, function)

    def test_no_two_lists_are_one(self):
        for function, given in ASKED:
            lists = lists_of(function(*given)) + lists_of(function(*given)) + lists_of(given)
            self.assertEqual(len({id(each) for each in lists}), len(lists), function)

    def test_lists_are_told(self):
        for function, given in ASKED:
            self.assertEqual(len(lists_of(function(*given))), 2 if function in (solved, walk) else 1)


class HandedInTest(unittest.TestCase):
    def test_nothing_is_changed_and_all_is_answered_alike(self):
        rng = random.Random(41)
        for _ in range(60):
            hall, world, saying = some_hall(rng, rng.randint(1, 9)), some_world(rng, 4), some_short_saying(rng)
            moves, goal = [room[2][0] for room in hall], [rng.randrange(len(hall)) for _ in range(3)]
            for function, *given in (
                (looked, hall), (shown, hall), (read, shown(hall)), (walk, hall, 0, moves), (winner, hall, goal),
                (pulled, hall, 0, goal), (pulled, hall, 1, goal), (solved, hall), (looked_saying, saying),
                (turned, saying), (shown_saying, saying), (read_saying, shown_saying(saying)),
                (true_at, world, saying), (hall_of, world, saying),
            ):
                before = copy.deepcopy(given)
                first = copy.deepcopy(function(*given))
                self.assertEqual(given, before, function)
                self.assertEqual(function(*given), first, function)
                self.assertEqual(function(*before), first, function)


if __name__ == "__main__":
    unittest.main()

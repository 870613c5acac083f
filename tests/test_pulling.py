import copy
import functools
import inspect
import itertools
import random
import unittest

from samples import some_hall

from everduel.pulling import pulled

# Hand 0 moves at 0, 2 and 4, hand 1 at 1, 3 and 5.
HALL = [
    (0, 0, (1, 2)),
    (1, 1, (0, 2)),
    (0, 2, (2, 3)),
    (1, 3, (4,)),
    (0, 4, (4,)),
    (1, 5, (3, 5)),
]


def own_steps(hall, hand, goal):
    """The fewest moves by asking, for each number of moves, whether the goal can be forced within them."""
    @functools.cache
    def within(room, moves):
        if room in goal:
            return True
        if moves == 0:
            return False
        ends = [within(way, moves - 1) for way in hall[room][2]]
        return any(ends) if hall[room][0] == hand else all(ends)

    # Where the goal can be forced at all, it can without a room that comes twice.
    numbers = range(len(hall) + 1)
    return [min((n for n in numbers if within(room, n)), default=None) for room in range(len(hall))]


class PulledTest(unittest.TestCase):
    def test_names_and_arguments(self):
        self.assertEqual(list(inspect.signature(pulled).parameters), ["hall", "hand", "goal"])

    def test_both_hands(self):
        self.assertEqual(pulled(HALL, 0, [4]), [3, 4, 2, 1, 0, None])
        self.assertEqual(pulled(HALL, 1, [4]), [None, None, None, 1, 0, 2])
        self.assertEqual(pulled(HALL, 0, [2]), [1, 2, 0, None, None, None])
        self.assertEqual(pulled(HALL, 1, [2]), [2, 1, 0, None, None, None])

    def test_nought_just_in_the_goal(self):
        for hand, goal in itertools.product((0, 1), ([0], [2, 4], [5, 1, 3], [0, 1, 2, 3, 4, 5])):
            steps = pulled(HALL, hand, goal)
            self.assertEqual([room for room in range(6) if steps[room] == 0], sorted(goal))

    def test_one_way_of_the_hand_is_enough(self):
        hall = [(0, 0, (0, 1, 2)), (0, 0, (1,)), (1, 0, (2,))]
        self.assertEqual(pulled(hall, 0, [2]), [1, None, 0])
        self.assertEqual(pulled(hall, 0, [1]), [1, 0, None])
        self.assertEqual(pulled(hall, 1, [2]), [None, None, 0])

    def test_all_ways_of_the_other_hand_are_asked_for(self):
        hall = [(1, 0, (1, 2)), (0, 0, (1,)), (0, 0, (2,))]
        self.assertEqual(pulled(hall, 0, [1]), [None, 0, None])
        self.assertEqual(pulled(hall, 0, [1, 2]), [1, 0, 0])
        self.assertEqual(pulled(hall, 1, [1]), [1, 0, None])

    def test_the_other_hand_takes_the_longest_way(self):
        hall = [(1, 0, (1, 3)), (0, 0, (2,)), (0, 0, (3,)), (0, 0, (3,))]
        self.assertEqual(pulled(hall, 0, [3]), [3, 2, 1, 0])
        self.assertEqual(pulled(hall, 1, [3]), [1, 2, 1, 0])

    def test_the_other_hand_may_stay_for_ever(self):
        hall = [(1, 0, (0, 1)), (0, 0, (1,))]
        self.assertEqual(pulled(hall, 0, [1]), [None, 0])
        self.assertEqual(pulled(hall, 1, [1]), [1, 0])

    def test_an_empty_goal(self):
        self.assertEqual(pulled(HALL, 0, []), [None] * 6)
        self.assertEqual(pulled(HALL, 1, []), [None] * 6)

    def test_one_room(self):
        for hand, mover in itertools.product((0, 1), (0, 1)):
            self.assertEqual(pulled([(mover, 7, (0,))], hand, [0]), [0])
            self.assertEqual(pulled([(mover, 7, (0,))], hand, []), [None])

    def test_a_goal_in_any_order_with_rooms_twice(self):
        for hand, goal in itertools.product((0, 1), ([1, 4], [0, 3, 5])):
            expected = pulled(HALL, hand, goal)
            for order in itertools.permutations(goal + goal):
                self.assertEqual(pulled(HALL, hand, list(order)), expected)

    def test_ranks_do_not_count(self):
        flat = [(hand, 0, ways) for hand, _, ways in HALL]
        for hand, goal in itertools.product((0, 1), ([4], [2], [0, 3])):
            self.assertEqual(pulled(flat, hand, goal), pulled(HALL, hand, goal))

    def test_a_long_chain(self):
        for size, mover in itertools.product((80, 120), (0, 1)):
            hall = [(mover, 0, (max(0, room - 1),)) for room in range(size)]
            for hand in (0, 1):
                self.assertEqual(pulled(hall, hand, [0]), list(range(size)))

    def test_all_halls_of_two_rooms(self):
        rooms = [(hand, 0, ways) for hand in (0, 1) for ways in ((0,), (1,), (0, 1))]
        for hall in itertools.product(rooms, repeat=2):
            for hand, goal in itertools.product((0, 1), ([], [0], [1], [1, 0])):
                self.assertEqual(pulled(list(hall), hand, goal), own_steps(hall, hand, goal))

    def test_many_halls(self):
        rng = random.Random(7)
        for _ in range(600):
            size = rng.randint(1, 14)
            hall = some_hall(rng, size, rng.choice((1, 2, 3, 5)))
            goal = [rng.randrange(size) for _ in range(rng.randint(0, 4))]
            for hand in (0, 1):
                self.assertEqual(pulled(hall, hand, goal), own_steps(hall, hand, goal), (hall, hand, goal))

    def test_great_halls(self):
        rng = random.Random(8)
        for size in (40, 80, 100):
            for most_ways in (1, 2, 3, size):
                hall = some_hall(rng, size, most_ways)
                for hand in (0, 1):
                    self.assertEqual(pulled(hall, hand, [size - 1, 0]), own_steps(hall, hand, [0, size - 1]))

    def test_a_list_of_whole_numbers_and_none(self):
        told = pulled(HALL, 0, [4])
        self.assertIs(type(told), list)
        self.assertEqual([type(each) for each in told], [int] * 5 + [type(None)])

    def test_what_is_handed_in_is_as_it_was(self):
        hall, goal = copy.deepcopy(HALL), [4, 2, 4]
        for hand in (0, 1):
            self.assertEqual(pulled(hall, hand, goal), pulled(hall, hand, goal))
        self.assertEqual((hall, goal), (HALL, [4, 2, 4]))

    def test_what_is_handed_in_may_be_changed_later(self):
        hall, goal = copy.deepcopy(HALL), [4]
        told = pulled(hall, 0, goal)
        goal[0] = 2
        self.assertEqual(told, [3, 4, 2, 1, 0, None])
        self.assertEqual(pulled(hall, 0, goal), [1, 2, 0, None, None, None])
        hall[3] = (1, 3, (2, 4))
        self.assertEqual(pulled(hall, 1, goal), [2, 1, 0, 1, None, 2])


if __name__ == "__main__":
    unittest.main()

import copy
import inspect
import itertools
import random
import time
import unittest

from samples import fault_of_solution, some_hall

from everduel.pulling import pulled
from everduel.solving import solved
from everduel.walks import walk, winner


def ladder(size):
    """A hall of two rails of rooms with ranks 0 and 1, each with a way along and a way across."""
    return [(room % 2, room % 2, tuple(sorted({(room + 1) % size, (room + 2) % size}))) for room in range(size)]


def open_hall(size, hand_of, rank_of):
    """A hall whose rooms each lead to all rooms."""
    return [(hand_of(room), rank_of(room), tuple(range(size))) for room in range(size)]


def towers(size):
    """Rooms of rising ranks that lead one down, back to the top and on to the next tower."""
    hall = []
    for room in range(size):
        ways = {max(0, room - 1), room - room % 8, min(size - 1, room + 8)}
        hall.append(((room // 8 + room) % 2, room % 8, tuple(sorted(ways))))
    return hall


class SolvedTest(unittest.TestCase):
    def assert_sound(self, hall):
        given = copy.deepcopy(hall)
        told = solved(hall)
        self.assertIsNone(fault_of_solution(hall, told), (hall, told))
        self.assertEqual(hall, given)
        return told

    def test_names_and_arguments(self):
        self.assertEqual(list(inspect.signature(solved).parameters), ["hall"])

    def test_one_room(self):
        for hand, rank in itertools.product((0, 1), range(8)):
            move = 0 if hand == rank % 2 else None
            self.assertEqual(solved([(hand, rank, (0,))]), ([rank % 2], [move]))

    def test_the_hand_that_moves_chooses(self):
        for hand in (0, 1):
            hall = [(hand, 0, (1, 2)), (0, 2, (1,)), (0, 3, (2,))]
            self.assertEqual(solved(hall), ([hand, 0, 1], [1 + hand, 1, None]))

    def test_the_other_hand_can_not_help_it(self):
        hall = [(1, 7, (1, 2)), (1, 2, (1,)), (0, 4, (1, 2))]
        self.assertEqual(solved(hall)[0], [0, 0, 0])
        self.assertEqual([solved(hall)[1][room] for room in (0, 1)], [None, None])
        self.assert_sound(hall)

    def test_only_what_comes_again_and_again_counts(self):
        hall = [(0, 7, (1,)), (0, 6, (2,)), (1, 5, (3,)), (1, 0, (2, 3))]
        self.assertEqual(solved(hall), ([1, 1, 1, 1], [None, None, 3, 2]))

    def test_the_greatest_rank_and_not_the_least_counts(self):
        self.assertEqual(solved([(0, 0, (1,)), (0, 3, (0,))]), ([1, 1], [None, None]))
        self.assertEqual(solved([(0, 1, (1,)), (0, 4, (0,))]), ([0, 0], [1, 0]))

    def test_a_move_into_rooms_that_the_hand_wins(self):
        hall = [(0, 1, (0, 1)), (0, 2, (1, 2)), (1, 3, (0, 2))]
        self.assertEqual(solved(hall), ([0, 0, 1], [1, 1, 2]))

    def test_all_halls_of_two_rooms_with_ranks_to_three(self):
        rooms = [(hand, rank, ways) for hand in (0, 1) for rank in range(4) for ways in ((0,), (1,), (0, 1))]
        for hall in itertools.product(rooms, repeat=2):
            self.assert_sound(list(hall))

    def test_many_small_halls(self):
        rng = random.Random(11)
        for _ in range(3000):
            hall = some_hall(rng, rng.randint(1, 18), rng.choice((1, 2, 3, 4)), rng.choice((2, 3, 5, 8)))
            self.assert_sound(hall)

    def test_great_halls(self):
        rng = random.Random(12)
        for size in (40, 47, 60, 79, 80):
            for most_ways in (1, 2, 3, 5, size):
                for _ in range(6):
                    self.assert_sound(some_hall(rng, size, most_ways))

    def test_built_halls(self):
        for size in (8, 16, 40, 80):
            self.assert_sound(ladder(size))
            self.assert_sound(towers(size))
            self.assert_sound(open_hall(size, lambda room: room % 2, lambda room: room % 8))
            self.assert_sound(open_hall(size, lambda room: room // 4 % 2, lambda room: 7 - room * 8 // size))

    def test_all_ranks_alike(self):
        rng = random.Random(13)
        for rank in range(8):
            hall = [(hand, rank, ways) for hand, _, ways in some_hall(rng, 20)]
            self.assertEqual(self.assert_sound(hall)[0], [rank % 2] * 20)

    def test_hands_and_ranks_changed_about(self):
        rng = random.Random(14)
        for _ in range(200):
            hall = some_hall(rng, rng.randint(1, 15))
            other = [(1 - hand, rank + 1, ways) for hand, rank, ways in hall]
            self.assertEqual(self.assert_sound(other)[0], [1 - hand for hand in solved(hall)[0]])

    def test_a_goal_to_stay_in(self):
        rng = random.Random(15)
        for _ in range(200):
            size = rng.randint(2, 15)
            hall = [(hand, 1, ways) for hand, _, ways in some_hall(rng, size)]
            hall[0] = (0, 2, (0,))
            steps = pulled(hall, 0, [0])
            self.assertEqual(self.assert_sound(hall)[0], [1 if each is None else 0 for each in steps])

    def test_walks_by_the_told_moves(self):
        rng = random.Random(16)
        for _ in range(100):
            hall = some_hall(rng, rng.randint(1, 12))
            hands, moves = solved(hall)
            for start in range(len(hall)):
                free = [rng.choice(ways) if moves[room] is None else moves[room]
                        for room, (_, _, ways) in enumerate(hall)]
                self.assertEqual(winner(hall, walk(hall, start, free)[1]), hands[start])

    def test_somewhat_beyond_the_bounds(self):
        rng = random.Random(17)
        for size, ranks in ((81, 8), (120, 12), (10, 30), (100, 100)):
            self.assert_sound(some_hall(rng, size, 3, ranks))
        self.assert_sound([(0, room, (room, min(99, room + 1))) for room in range(100)])

    def test_eighty_rooms_within_a_few_seconds(self):
        rng = random.Random(18)
        halls = [some_hall(rng, 80, most_ways) for most_ways in (1, 2, 2, 2, 3, 4, 8, 80)]
        halls += [ladder(80), towers(80), open_hall(80, lambda room: room % 2, lambda room: room % 8)]
        for hall in halls:
            begun = time.perf_counter()
            solved(hall)
            self.assertLess(time.perf_counter() - begun, 3)

    def test_asked_twice_alike(self):
        rng = random.Random(19)
        for _ in range(20):
            hall = some_hall(rng, 18)
            self.assertEqual(solved(hall), solved(copy.deepcopy(hall)))

    def test_what_is_handed_in_may_be_changed_later(self):
        hall = [(0, 0, (0, 1)), (1, 1, (1,))]
        told = solved(hall)
        hall[0] = (0, 3, (0, 1))
        self.assertEqual(told, ([0, 1], [0, 1]))
        self.assertEqual(solved(hall), ([1, 1], [None, 1]))


class ReckoningTest(unittest.TestCase):
    """The own reckoning sees wrong answers."""

    HALL = [(0, 0, (0, 1)), (1, 1, (0, 1)), (0, 2, (0, 1, 2))]

    def test_right(self):
        self.assertIsNone(fault_of_solution(self.HALL, ([0, 1, 0], [0, 1, 0])))
        self.assertIsNone(fault_of_solution(self.HALL, ([0, 1, 0], [0, 1, 2])))

    def test_wrong(self):
        for hands, moves in (
            ([0, 1, 0], [1, 1, 0]), ([0, 1, 0], [0, 0, 0]), ([0, 1, 0], [0, 1, 1]), ([0, 1, 0], [0, 1, None]),
            ([1, 1, 0], [None, 1, 0]), ([0, 0, 0], [0, None, 0]), ([0, 1, 1], [0, 1, None]), ([0, 1], [0, 1]),
            ([0, 1, 0], [0, 1, 3]), ([0, 1, 0], [None, 1, 0]), ([0, 1, None], [0, 1, 0]),
        ):
            self.assertIsNotNone(fault_of_solution(self.HALL, (hands, moves)))


if __name__ == "__main__":
    unittest.main()

import copy
import inspect
import itertools
import unittest

from everduel.errors import BadMove, NoRoom
from everduel.walks import walk, winner

# Rooms 0 and 1 lead into the round of 2, 3 and 4; room 5 stays where it is.
HALL = [
    (0, 1, (1, 5)),
    (1, 6, (0, 2)),
    (0, 2, (3,)),
    (1, 3, (2, 4)),
    (1, 0, (2, 5)),
    (0, 5, (0, 5)),
]
MOVES = [1, 2, 3, 4, 2, 5]


def open_hall(size):
    """A hall whose rooms each lead to all rooms."""
    return [(0, 0, tuple(range(size)))] * size


class InterfaceTest(unittest.TestCase):
    def test_names_and_arguments(self):
        for function, names in ((walk, ["hall", "start", "moves"]), (winner, ["hall", "rooms"])):
            self.assertEqual(list(inspect.signature(function).parameters), names)


class WalkTest(unittest.TestCase):
    def assert_refused(self, refusal, hall, start, moves):
        given = copy.deepcopy((hall, moves))
        with self.assertRaises(refusal) as caught:
            walk(hall, start, moves)
        self.assertIs(type(caught.exception), refusal)
        self.assertEqual((hall, moves), given)

    def test_rooms_ahead_of_the_round(self):
        self.assertEqual(walk(HALL, 0, MOVES), ([0, 1], [2, 3, 4]))
        self.assertEqual(walk(HALL, 1, MOVES), ([1], [2, 3, 4]))
        self.assertEqual(walk(HALL, 0, [1, 2, 3, 4, 5, 5]), ([0, 1, 2, 3, 4], [5]))
        self.assertEqual(walk(HALL, 0, [1, 2, 3, 2, 5, 5]), ([0, 1], [2, 3]))

    def test_no_room_ahead_of_the_round(self):
        self.assertEqual(walk(HALL, 2, MOVES), ([], [2, 3, 4]))
        self.assertEqual(walk(HALL, 4, MOVES), ([], [4, 2, 3]))
        self.assertEqual(walk(HALL, 0, [1, 2, 3, 4, 5, 0]), ([], [0, 1, 2, 3, 4, 5]))

    def test_the_round_begins_with_the_first_that_comes_again(self):
        self.assertEqual(walk(open_hall(5), 4, [3, 0, 1, 2, 1]), ([4], [1, 0, 3, 2]))

    def test_a_round_of_one_room(self):
        self.assertEqual(walk([(0, 0, (0,))], 0, [0]), ([], [0]))
        self.assertEqual(walk(HALL, 5, MOVES), ([], [5]))
        self.assertEqual(walk(open_hall(3), 0, [2, 1, 2]), ([0], [2]))

    def test_many_rooms(self):
        for size in (80, 100):
            moves = list(range(1, size)) + [size // 2]
            expected = (list(range(size // 2)), list(range(size // 2, size)))
            self.assertEqual(walk(open_hall(size), 0, moves), expected)

    def test_all_moves_of_four_rooms(self):
        for start, moves in itertools.product(range(4), itertools.product(range(4), repeat=4)):
            ahead, again = walk(open_hall(4), start, list(moves))
            self.assertEqual(len(set(ahead + again)), len(ahead + again))
            self.assertGreater(len(again), 0)
            room = start
            for expected in ahead + again + again:
                self.assertEqual(room, expected)
                room = moves[room]

    def test_a_tuple_of_two_lists(self):
        for start in (0, 2):
            told = walk(HALL, start, MOVES)
            self.assertEqual([type(told)] + [type(part) for part in told], [tuple, list, list])

    def test_a_start_that_is_no_room(self):
        for start in (-1, -6, -7, -10**5000, 6, 7, 80, 10**5000):
            self.assert_refused(NoRoom, HALL, start, MOVES)
        for start in (-1, 1):
            self.assert_refused(NoRoom, [(0, 0, (0,))], start, [0])

    def test_a_move_that_is_no_way_of_its_room(self):
        for move in (0, 2, 3, 4, 6, -1, -5, 10**5000, -10**5000, None):
            self.assert_refused(BadMove, HALL, 0, [move] + MOVES[1:])
        self.assert_refused(BadMove, [(0, 0, (0,))], 0, [1])

    def test_a_bad_move_where_the_walk_does_not_come(self):
        self.assert_refused(BadMove, HALL, 5, [0] + MOVES[1:])
        self.assert_refused(BadMove, HALL, 2, [1, 1, 3, 4, 2, 5])
        self.assert_refused(BadMove, HALL, 0, MOVES[:5] + [4])
        self.assert_refused(BadMove, HALL, 0, MOVES[:5] + [-1])

    def test_no_room_is_ahead_of_bad_move(self):
        for start in (-1, 6):
            self.assert_refused(NoRoom, HALL, start, [0] + MOVES[1:])
            self.assert_refused(NoRoom, HALL, start, MOVES[:5] + [4])

    def test_what_is_handed_in_is_as_it_was(self):
        hall, moves = copy.deepcopy(HALL), list(MOVES)
        for start in range(6):
            self.assertEqual(walk(hall, start, moves), walk(hall, start, moves))
        self.assertEqual((hall, moves), (HALL, MOVES))

    def test_what_is_handed_in_may_be_changed_later(self):
        hall, moves = copy.deepcopy(HALL), list(MOVES)
        told = walk(hall, 0, moves)
        moves[1] = 0
        self.assertEqual(told, ([0, 1], [2, 3, 4]))
        self.assertEqual(walk(hall, 0, moves), ([], [0, 1]))
        hall[1] = (1, 6, (2,))
        self.assert_refused(BadMove, hall, 0, moves)

    def test_what_is_told_is_the_askers_own(self):
        for start, expected in ((0, ([0, 1], [2, 3, 4])), (5, ([], [5]))):
            ahead, again = walk(HALL, start, MOVES)
            self.assertIsNot(ahead, again)
            ahead.append(9)
            again.clear()
            self.assertEqual(walk(HALL, start, MOVES), expected)


class WinnerTest(unittest.TestCase):
    def test_one_room(self):
        for rank in range(8):
            self.assertEqual(winner([(0, rank, (0,))], [0]), rank % 2)
            self.assertEqual(winner([(1, rank, (0,))], [0]), rank % 2)

    def test_the_greatest_rank_of_several(self):
        even = ([0, 2], [0, 1], [1, 5], [2, 4], [0, 1, 3, 5])
        odd = ([2, 3, 4], [0, 5], [0, 4], [2, 3, 4, 5])
        for rooms, hand in [(rooms, 0) for rooms in even] + [(rooms, 1) for rooms in odd]:
            for order in itertools.permutations(rooms):
                self.assertEqual(winner(HALL, list(order)), hand)

    def test_only_the_rooms_of_the_list_count(self):
        self.assertEqual(winner(HALL, [0]), 1)
        self.assertEqual(winner(HALL, [4]), 0)

    def test_rooms_that_stand_twice(self):
        self.assertEqual(winner(HALL, [3, 3, 2]), 1)
        self.assertEqual(winner(HALL, [3, 2, 3, 2, 2]), 1)
        self.assertEqual(winner(HALL, [1, 1, 5, 1]), 0)
        self.assertEqual(winner(HALL, [4, 4]), 0)

    def test_a_list_of_more_rooms_than_the_hall_has(self):
        self.assertEqual(winner(HALL, list(range(6)) * 20), 0)
        self.assertEqual(winner(HALL, [0, 2, 3, 4, 5] * 20), 1)

    def test_somewhat_beyond_the_bounds(self):
        hall = [(0, 8, (0,)), (0, 11, (1,)), (0, 7, (2,))]
        self.assertEqual([winner(hall, [0, 2]), winner(hall, [0, 1, 2])], [0, 1])

    def test_the_answer_is_a_whole_number(self):
        self.assertEqual([type(winner(HALL, [room])) for room in range(6)], [int] * 6)

    def test_what_is_handed_in_is_as_it_was(self):
        hall, rooms = copy.deepcopy(HALL), [3, 2, 3]
        self.assertEqual([winner(hall, rooms), winner(hall, rooms)], [1, 1])
        self.assertEqual((hall, rooms), (HALL, [3, 2, 3]))
        hall[3] = (1, 4, (2, 4))
        self.assertEqual(winner(hall, rooms), 0)


if __name__ == "__main__":
    unittest.main()

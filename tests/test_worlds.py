import copy
import inspect
import itertools
import random
import unittest

from samples import own_hall_of, own_parts, own_true_at, some_saying, some_short_saying, some_world

from everduel.halls import looked, read, shown
from everduel.sayings import looked_saying, read_saying
from everduel.solving import solved
from everduel.worlds import hall_of, true_at

# Place 0 leads to 1 and 2, 1 to itself, 2 to 0 and 3; from 3 there is no way.
WORLD = [("p", (1, 2)), ("", (1,)), ("pq", (0, 3)), ("qr", ())]


def held(world, text):
    """The places where the statement of a text holds."""
    return [place for place, holds in enumerate(true_at(world, read_saying(text))) if holds]


def told_by_solved(world, saying):
    """For each place whether hand 0 wins from its first room."""
    hall = hall_of(world, saying)
    size = looked_saying(saying)
    hands = solved(hall)[0]
    return [hands[place * size] == 0 for place in range(len(world))]


class InterfaceTest(unittest.TestCase):
    def test_names_and_arguments(self):
        for function in (true_at, hall_of):
            self.assertEqual(list(inspect.signature(function).parameters), ["world", "saying"])


class TrueAtTest(unittest.TestCase):
    def test_each_kind(self):
        for text, places in (
            ("1", [0, 1, 2, 3]), ("0", []), ("p", [0, 2]), ("q", [2, 3]), ("r", [3]), ("!p", [1, 3]), ("!r", [0, 1, 2]),
            ("<>q", [0, 2]), ("<>1", [0, 1, 2]), ("<>0", []), ("[]q", [3]), ("[]1", [0, 1, 2, 3]), ("[]0", [3]),
            ("[]!p", [1, 3]), ("(p&q)", [2]), ("(p&1)", [0, 2]), ("(p|q)", [0, 2, 3]), ("(p|0)", [0, 2]),
            ("(q&<>p)", [2]), ("<>[]0", [2]), ("[]<>1", [0, 1, 3]), ("<>(p&q)", [0]),
        ):
            self.assertEqual(held(WORLD, text), places, text)

    def test_a_place_without_ways(self):
        self.assertEqual(true_at([("", ())], ("some", ("yes",))), [False])
        self.assertEqual(true_at([("", ())], ("some", ("no",))), [False])
        self.assertEqual(true_at([("", ())], ("every", ("yes",))), [True])
        self.assertEqual(true_at([("", ())], ("every", ("no",))), [True])

    def test_least_and_most(self):
        for text, places in (
            ("-X.X", []), ("+X.X", [0, 1, 2, 3]), ("-X.p", [0, 2]), ("+X.p", [0, 2]), ("-X.1", [0, 1, 2, 3]), ("+X.0", []),
            ("-X.(r|<>X)", [0, 2, 3]), ("-X.(r|[]X)", [3]), ("+X.<>X", [0, 1, 2]), ("+X.(p&<>X)", [0, 2]),
            ("+X.[]X", [0, 1, 2, 3]), ("-X.[]X", [3]), ("-X.<>X", []), ("+X.(!r&[]X)", [1]),
            ("-X.(r|(p&<>X))", [0, 2, 3]), ("(-X.(r|<>X)&+X.<>X)", [0, 2]),
        ):
            self.assertEqual(held(WORLD, text), places, text)

    def test_least_and_most_within_one_another(self):
        # A walk that comes to p again and again, against one that does so and comes to the other places seldom.
        world = [("", (1,)), ("p", (0, 2)), ("p", (2,)), ("", (3,)), ("p", (3,))]
        self.assertEqual(held(world, "+X.-Y.((p&<>X)|<>Y)"), [0, 1, 2])
        self.assertEqual(held(world, "-Y.+X.((p&<>X)|<>Y)"), [0, 1, 2])
        world[2] = ("p", (0,))
        self.assertEqual(held(world, "+X.-Y.((p&<>X)|<>Y)"), [0, 1, 2])
        world[1] = ("p", (0,))
        self.assertEqual(held(world, "-Y.+X.((p&<>X)|<>Y)"), [])
        self.assertEqual(held(world, "+X.-Y.((p&<>X)|<>Y)"), [0, 1, 2])

    def test_the_same_name_side_by_side(self):
        self.assertEqual(held(WORLD, "(-X.(r|<>X)&+X.(p&<>X))"), [0, 2])
        self.assertEqual(held(WORLD, "(+X.<>X|-X.<>X)"), [0, 1, 2])
        self.assertEqual(held(WORLD, "+Y.(-X.(r|<>X)&(Y|+X.X))"), [0, 2, 3])

    def test_one_place(self):
        for marks, ways in itertools.product(("", "p", "q", "pqr"), ((), (0,))):
            world = [(marks, ways)]
            for text in ("p", "!p", "<>p", "[]p", "-X.(p|<>X)", "+X.(p&[]X)", "-X.[]X", "+X.<>X", "+X.-Y.(<>X|Y)"):
                self.assertEqual(true_at(world, read_saying(text)), own_true_at(world, read_saying(text)))

    def test_many_worlds(self):
        rng = random.Random(31)
        for size, most_bound, many in ((1, 4, 150), (2, 4, 150), (3, 3, 150), (4, 2, 150), (5, 2, 60), (6, 2, 40)):
            for _ in range(many):
                world, saying = some_world(rng, size), some_short_saying(rng, 13, most_bound)
                self.assertEqual(true_at(world, saying), own_true_at(world, saying), (world, saying))

    def test_four_names_within_one_another(self):
        rng = random.Random(32)
        saying = read_saying("+X.-Y.+Z.-U.(<>X|([]Y&(Z|U)))")
        other = read_saying("-X.+Y.-Z.+U.([]X&(<>Y|(Z&U)))")
        for _ in range(5):
            world = some_world(rng, 3)
            for each in (saying, other):
                self.assertEqual(true_at(world, each), own_true_at(world, each), world)

    def test_true_and_false_alone(self):
        rng = random.Random(33)
        for text in ("1", "0", "p", "!p", "<>p", "[]p", "(p&q)", "(p|q)", "-X.(p|<>X)", "+X.(p&[]X)", "-X.X", "+X.X"):
            told = true_at(some_world(rng, 6), read_saying(text))
            self.assertIs(type(told), list)
            self.assertEqual([type(each) for each in told], [bool] * 6)

    def test_somewhat_beyond_the_bounds(self):
        world = [("", (place + 1,)) for place in range(11)] + [("p", ())]
        self.assertEqual(held(world, "-X.(p|<>X)"), list(range(12)))
        saying = ("mark", "p")
        for _ in range(11):
            saying = ("some", saying)
        self.assertEqual(true_at(world, saying), [True] + [False] * 11)

    def test_what_is_handed_in_is_as_it_was(self):
        rng = random.Random(34)
        for _ in range(30):
            world, saying = some_world(rng, 5), some_short_saying(rng)
            given = copy.deepcopy((world, saying))
            self.assertEqual(true_at(world, saying), true_at(world, saying))
            self.assertEqual((world, saying), given)

    def test_the_world_may_be_changed_later(self):
        world = copy.deepcopy(WORLD)
        saying = read_saying("-X.(r|<>X)")
        told = true_at(world, saying)
        world[3] = ("", ())
        self.assertEqual(told, [True, False, True, True])
        self.assertEqual(true_at(world, saying), [False] * 4)


class HallOfTest(unittest.TestCase):
    def assert_hall(self, world, text, rows):
        self.assertEqual(hall_of(world, read_saying(text)), read("\n".join(rows)), text)

    def test_rooms_that_lead_to_themselves(self):
        world = [("p", ()), ("", (0,))]
        self.assert_hall(world, "1", ["0 0: 0", "0 0: 1"])
        self.assert_hall(world, "0", ["0 1: 0", "0 1: 1"])
        self.assert_hall(world, "p", ["0 0: 0", "0 1: 1"])
        self.assert_hall(world, "!p", ["0 1: 0", "0 0: 1"])
        self.assert_hall(world, "q", ["0 1: 0", "0 1: 1"])

    def test_some_and_every(self):
        world = [("p", ()), ("", (0,)), ("", (0, 1, 2))]
        self.assert_hall(world, "<>p", ["0 1: 0", "0 0: 1", "0 0: 1", "0 1: 3", "0 0: 1 3 5", "0 1: 5"])
        self.assert_hall(world, "[]p", ["0 0: 0", "0 0: 1", "1 0: 1", "0 1: 3", "1 0: 1 3 5", "0 1: 5"])

    def test_both_and_either(self):
        world = [("p", ()), ("", (0,))]
        self.assert_hall(world, "(p&1)", ["1 0: 1 2", "0 0: 1", "0 0: 2", "1 0: 4 5", "0 1: 4", "0 0: 5"])
        self.assert_hall(world, "(p|0)", ["0 0: 1 2", "0 0: 1", "0 1: 2", "0 0: 4 5", "0 1: 4", "0 1: 5"])

    def test_parts_from_left_to_right_ahead_of_those_in_them(self):
        rows = ["1 0: 1 4", "0 0: 2 3", "0 0: 2", "0 1: 3", "0 0: 5 6", "0 1: 5", "0 0: 6"]
        self.assert_hall([("p", ())], "((p|q)&(0|!r))", rows)

    def test_least_most_and_names(self):
        world = [("", (0,))]
        self.assert_hall(world, "-X.X", ["0 1: 1", "0 0: 0"])
        self.assert_hall(world, "+X.X", ["0 0: 1", "0 0: 0"])
        self.assert_hall(world, "-X.<>X", ["0 1: 1", "0 0: 2", "0 0: 0"])
        self.assert_hall(world, "+X.[]X", ["0 0: 1", "1 0: 2", "0 0: 0"])

    def test_two_places(self):
        rows = ["0 1: 1", "0 0: 2 3", "0 1: 2", "0 0: 4 9", "0 0: 0"]
        rows += ["0 1: 6", "0 0: 7 8", "0 0: 7", "0 1: 8", "0 0: 5"]
        self.assert_hall([("", (0, 1)), ("p", ())], "-X.(p|<>X)", rows)

    def ranks(self, text):
        saying = read_saying(text)
        hall = hall_of([("", (0,))], saying)
        parts = [part for path, part in own_parts(saying)]
        return [room[1] for room, part in zip(hall, parts) if part[0] in ("least", "most")]

    def test_ranks_within_one_another(self):
        for text, ranks in (
            ("-X.p", [1]), ("+X.p", [0]), ("-X.-Y.p", [1, 1]), ("+X.+Y.p", [0, 0]), ("-X.+Y.p", [1, 0]), ("+X.-Y.p", [2, 1]),
            ("+X.-Y.+Z.p", [2, 1, 0]), ("-X.+Y.-Z.p", [3, 2, 1]), ("+X.-Y.+Z.-U.p", [4, 3, 2, 1]),
            ("-X.+Y.-Z.+U.p", [3, 2, 1, 0]), ("+X.+Y.-Z.-U.p", [2, 2, 1, 1]), ("-X.-Y.+Z.+U.p", [1, 1, 0, 0]),
            ("-X.<>+Y.[]-Z.p", [3, 2, 1]),
        ):
            self.assertEqual(self.ranks(text), ranks, text)

    def test_ranks_side_by_side(self):
        for text, ranks in (
            ("(-X.p&+X.p)", [1, 0]), ("(+X.-Y.p&-X.p)", [2, 1, 1]), ("-U.(+X.-Y.X&+X.X)", [3, 2, 1, 0]),
            ("+U.(+X.X|-Y.p)", [2, 0, 1]), ("+U.(-Y.p|+X.X)", [2, 1, 0]), ("+U.(p|(q&+X.X))", [0, 0]),
            ("-U.(-X.X&+X.-Y.X)", [3, 1, 2, 1]),
        ):
            self.assertEqual(self.ranks(text), ranks, text)

    def test_ranks_hang_on_what_is_within_alone(self):
        self.assertEqual(self.ranks("+X.-Y.X"), self.ranks("+X.-Y.Y"))
        self.assertEqual(self.ranks("+X.-Y.X"), [2, 1])

    def test_names_lead_back(self):
        hall = hall_of([("", ())], read_saying("+X.-Y.((X|Y)&(Y|X))"))
        self.assertEqual([hall[room][2] for room in (4, 5, 7, 8)], [(0,), (1,), (1,), (0,)])
        hall = hall_of([("", ()), ("", ())], read_saying("(-X.X&+X.X)"))
        self.assertEqual([hall[room][2] for room in (2, 4, 7, 9)], [(1,), (3,), (6,), (8,)])

    def test_a_statement_that_stands_there_twice(self):
        one = ("least", "X", ("name", "X"))
        hall = hall_of([("", ())], ("both", one, one))
        self.assertEqual(hall, [(1, 0, (1, 3)), (0, 1, (2,)), (0, 0, (1,)), (0, 1, (4,)), (0, 0, (3,))])

    def test_a_list_of_tuples(self):
        hall = hall_of(WORLD, read_saying("+X.([]X&-Y.(p|<>Y))"))
        self.assertIs(type(hall), list)
        for room in hall:
            self.assertEqual([type(room)] + [type(each) for each in room], [tuple, int, int, tuple])
            self.assertEqual({type(way) for way in room[2]}, {int})

    def test_many_worlds_room_by_room(self):
        rng = random.Random(35)
        for _ in range(800):
            world, saying = some_world(rng, rng.randint(1, 6)), some_short_saying(rng)
            hall = hall_of(world, saying)
            self.assertEqual(hall, own_hall_of(world, saying), (world, saying))
            self.assertEqual(looked(hall), len(world) * looked_saying(saying))
            self.assertEqual(read(shown(hall)), hall)

    def test_somewhat_beyond_the_bounds(self):
        rng = random.Random(36)
        for _ in range(20):
            world, saying = some_world(rng, 9), some_saying(rng, 9)
            self.assertEqual(hall_of(world, saying), own_hall_of(world, saying))

    def test_what_is_handed_in_is_as_it_was(self):
        rng = random.Random(37)
        for _ in range(30):
            world, saying = some_world(rng, 5), some_short_saying(rng)
            given = copy.deepcopy((world, saying))
            self.assertEqual(hall_of(world, saying), hall_of(world, saying))
            self.assertEqual((world, saying), given)

    def test_the_world_may_be_changed_later(self):
        world = [("p", (0,))]
        hall = hall_of(world, read_saying("<>p"))
        world[0] = ("", ())
        self.assertEqual(hall, [(0, 0, (1,)), (0, 0, (1,))])
        self.assertEqual(hall_of(world, read_saying("<>p")), [(0, 1, (0,)), (0, 1, (1,))])


class HoldsWhereHandNoughtWinsTest(unittest.TestCase):
    def test_each_kind(self):
        for text in ("1", "0", "p", "!p", "<>p", "[]p", "(p&q)", "(p|q)", "-X.X", "+X.X", "-X.(r|<>X)", "+X.(p&<>X)"):
            self.assertEqual(told_by_solved(WORLD, read_saying(text)), true_at(WORLD, read_saying(text)), text)

    def test_many_worlds(self):
        rng = random.Random(38)
        for _ in range(1500):
            world, saying = some_world(rng, rng.randint(1, 6)), some_short_saying(rng)
            self.assertEqual(told_by_solved(world, saying), true_at(world, saying), (world, saying))

    def test_four_names_within_one_another(self):
        rng = random.Random(39)
        for text in ("+X.-Y.+Z.-U.(<>X|([]Y&(Z|U)))", "-X.+Y.-Z.+U.([]X&(<>Y|(Z&U)))"):
            for _ in range(50):
                world = some_world(rng, 6)
                self.assertEqual(told_by_solved(world, read_saying(text)), true_at(world, read_saying(text)), world)


if __name__ == "__main__":
    unittest.main()

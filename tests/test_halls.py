import copy
import inspect
import itertools
import re
import unittest

from everduel.errors import BadText, NoRoom, NotRising, NoWay
from everduel.halls import looked, read, shown

ROW = re.compile(r"([01]) ([0-7]):((?: (?:0|[1-9][0-9]?))+)")
SIGNS = [chr(code) for code in range(32, 127) if chr(code) != "%"] + ["\t", "\n"]

THREE = [(0, 3, (1, 2)), (1, 0, (0,)), (0, 7, (0, 1, 2))]
THREE_TEXT = "0 3: 1 2\n1 0: 0\n0 7: 0 1 2"


def ring(size):
    """A hall of so many rooms, each of which leads to the next one."""
    return [(room % 2, room % 8, ((room + 1) % size,)) for room in range(size)]


def of_ways(*ways):
    """A hall whose rooms have these ways."""
    return [(0, 0, each) for each in ways]


def refusal_of(asked, *given):
    """The very class that is raised, or None."""
    try:
        asked(*given)
    except Exception as error:
        return type(error)
    return None


def first_fault(hall):
    """The refusal that point 3 asks for: all faults are gathered, the least place is taken."""
    faults = []
    for room, (_, _, ways) in enumerate(hall):
        if ways == ():
            faults.append((room, 0, 0, NoWay))
        for k, way in enumerate(ways):
            if way not in range(len(hall)):
                faults.append((room, k, 1, NoRoom))
            if k > 0 and way <= ways[k - 1]:
                faults.append((room, k, 2, NotRising))
    return min(faults, key=lambda fault: fault[:3])[3] if faults else None


class InterfaceTest(unittest.TestCase):
    def test_names_and_arguments(self):
        for function, names in ((looked, ["hall"]), (shown, ["hall"]), (read, ["text"])):
            self.assertEqual(list(inspect.signature(function).parameters), names)


class LookedTest(unittest.TestCase):
    def test_tells_how_many_rooms(self):
        self.assertEqual(looked([(0, 0, (0,))]), 1)
        self.assertEqual(looked([(1, 7, (0,))]), 1)
        self.assertEqual(looked(THREE), 3)
        for size in (2, 10, 79, 80):
            self.assertEqual(looked(ring(size)), size)

    def test_every_room_may_lead_everywhere(self):
        self.assertEqual(looked(of_ways(*[tuple(range(80))] * 80)), 80)

    def test_somewhat_beyond_the_bounds_is_not_refused(self):
        for size in (0, 81, 100, 200):
            self.assertEqual(looked(ring(size)), size)
        self.assertEqual(looked([(0, 8, (0,))]), 1)
        self.assertEqual(looked([(0, 100, (0, 1)), (1, 9, (1,))]), 2)

    def test_a_room_without_ways(self):
        for hall in (of_ways(()), of_ways((), (0,)), of_ways((0,), ()), of_ways((0, 1), (0, 1), ())):
            self.assertIs(refusal_of(looked, hall), NoWay)

    def test_a_way_that_is_no_room(self):
        for way in (-1, -2, -3, -10**30, -10**5000, 2, 3, 80, 10**30, 10**5000):
            self.assertIs(refusal_of(looked, of_ways((0, 1), (way,))), NoRoom)
        self.assertIs(refusal_of(looked, of_ways((1,))), NoRoom)
        self.assertIs(refusal_of(looked, of_ways((0, 2), (0,))), NoRoom)
        self.assertIs(refusal_of(looked, ring(80)[:79]), NoRoom)

    def test_ways_that_do_not_rise(self):
        for ways in ((1, 0), (2, 1), (0, 2, 1), (1, 2, 0), (0, 0), (1, 1), (0, 2, 2), (0, 1, 1, 2)):
            self.assertIs(refusal_of(looked, of_ways((0,), ways, (2,))), NotRising)

    def test_of_several_faults_the_first(self):
        for hall, refusal in (
            (of_ways((), (5,), (1, 0)), NoWay),
            (of_ways((5,), (), (1, 0)), NoRoom),
            (of_ways((1, 0), (), (5,)), NotRising),
            (of_ways((0,), (1, 0), ()), NotRising),
            (of_ways((0, 5), (1, 0), ()), NoRoom),
            (of_ways((1, 0, 5), (0,)), NotRising),
            (of_ways((1, 5, 0), (0,)), NoRoom),
            (of_ways((0, 0, -1), (0,)), NotRising),
        ):
            self.assertIs(refusal_of(looked, hall), refusal)

    def test_no_room_is_ahead_of_not_rising_at_one_way(self):
        self.assertIs(refusal_of(looked, of_ways((0, -1), (0,))), NoRoom)
        self.assertIs(refusal_of(looked, of_ways((1, -1), (0,))), NoRoom)

    def test_all_halls_of_two_rooms_with_up_to_three_ways(self):
        ways = [each for many in range(4) for each in itertools.product((-1, 0, 1, 2), repeat=many)]
        for hall in itertools.product([(0, 1, each) for each in ways], repeat=2):
            self.assertIs(refusal_of(looked, list(hall)), first_fault(hall), hall)

    def test_the_hall_is_as_it_was_and_answers_alike(self):
        for hall in (THREE, ring(80), of_ways(()), of_ways((3,)), of_ways((1, 0), (1,))):
            given = copy.deepcopy(hall)
            self.assertIs(refusal_of(looked, given), refusal_of(looked, given))
            self.assertEqual(given, hall)
        self.assertEqual([looked(THREE), looked(THREE)], [3, 3])

    def test_nothing_is_kept_of_a_hall_that_is_changed_later(self):
        hall = copy.deepcopy(THREE)
        self.assertEqual(looked(hall), 3)
        hall[1] = (1, 0, ())
        self.assertIs(refusal_of(looked, hall), NoWay)
        hall[1] = (1, 0, (0,))
        hall.append((0, 0, (3,)))
        self.assertEqual(looked(hall), 4)


class ShownTest(unittest.TestCase):
    def test_to_the_sign(self):
        self.assertEqual(shown([(0, 3, (0,))]), "0 3: 0")
        self.assertEqual(shown(THREE), THREE_TEXT)
        eleven = ring(9) + [(0, 3, (1, 4, 10)), (1, 7, (0, 9, 10))]
        self.assertEqual(shown(eleven).split("\n")[9:], ["0 3: 1 4 10", "1 7: 0 9 10"])

    def test_a_row_for_each_room_and_no_line_end_behind(self):
        for size in (1, 2, 80):
            text = shown(ring(size))
            self.assertEqual(text.count("\n"), size - 1)
            self.assertEqual(text.split("\n")[-1], f"{(size - 1) % 2} {(size - 1) % 8}: 0")

    def test_halls_that_would_be_refused(self):
        self.assertEqual(shown(of_ways(())), "0 0:")
        self.assertEqual(shown([(1, 2, ()), (0, 3, (1,))]), "1 2:\n0 3: 1")
        self.assertEqual(shown([(1, 5, (7, 3, 3))]), "1 5: 7 3 3")
        self.assertEqual(shown([(1, 5, (100, 12345))]), "1 5: 100 12345")
        self.assertEqual(shown([(0, 0, (-1, 0))]), "0 0: -1 0")

    def test_somewhat_beyond_the_bounds(self):
        self.assertEqual(shown([]), "")
        self.assertEqual(shown([(0, 10, (0,))]), "0 10: 0")
        self.assertEqual(shown(ring(101)).split("\n")[99], "1 3: 100")

    def test_the_hall_is_as_it_was_and_answers_alike(self):
        hall = copy.deepcopy(THREE)
        self.assertEqual(shown(hall), shown(hall))
        self.assertEqual(hall, THREE)
        hall[0] = (1, 3, (2,))
        self.assertEqual(shown(hall), "1 3: 2\n1 0: 0\n0 7: 0 1 2")


class ReadTest(unittest.TestCase):
    def assert_refused(self, refusal, *texts):
        for text in texts:
            with self.subTest(text):
                self.assertIs(refusal_of(read, text), refusal)

    def test_a_list_of_tuples_with_tuples_of_ways(self):
        hall = read(THREE_TEXT)
        self.assertEqual(hall, THREE)
        self.assertIs(type(hall), list)
        for room in hall:
            self.assertEqual([type(part) for part in room], [int, int, tuple])
            self.assertIs(type(room), tuple)
            self.assertEqual({type(way) for way in room[2]}, {int})

    def test_what_is_written_is_read_to_the_same_hall(self):
        full = of_ways(*[tuple(range(80))] * 80)
        for hall in [[(0, 0, (0,))], [(1, 7, (0,))], THREE, full] + [ring(size) for size in range(1, 81)]:
            self.assertEqual(read(shown(hall)), hall)
        for hand, rank in itertools.product(range(2), range(8)):
            self.assertEqual(read(f"{hand} {rank}: 0"), [(hand, rank, (0,))])

    def test_rows(self):
        self.assertEqual(read("\n".join(["0 1: 0 79"] * 80)), [(0, 1, (0, 79))] * 80)
        self.assert_refused(BadText, "\n".join(["0 1: 0"] * 81), "\n".join(["0 1: 0"] * 200))
        self.assert_refused(BadText, "", "\n", "\n\n", "0 1: 0\n", "\n0 1: 0", "0 1: 0\n\n0 1: 0", "0 1: 0\n\n")

    def test_wrong_hands(self):
        self.assert_refused(BadText, "2 1: 0", "9 1: 0", "00 1: 0", "01 1: 0", "10 1: 0", "-1 1: 0", "+1 1: 0")
        self.assert_refused(BadText, "1: 0", " 1: 0", "a 1: 0", "_ 1: 0", "\t 1: 0", " 0 1: 0", "01: 0")

    def test_wrong_ranks(self):
        self.assert_refused(BadText, "0 8: 0", "0 9: 0", "0 10: 0", "0 00: 0", "0 07: 0", "0 70: 0", "0 -1: 0")
        self.assert_refused(BadText, "0 : 0", "0: 0", "0 a: 0", "0 +1: 0", "0 _1: 0", "0 1_: 0", "0 \t1: 0")

    def test_wrong_colons_and_blanks(self):
        self.assert_refused(BadText, "0 1 0", "0 1; 0", "0 1 : 0", "0 1:: 0", ": 0", "0 1 0:", "0 1: 0:")
        self.assert_refused(BadText, "0 1:0", "01: 0", "0  1: 0", "0 1:  0", "0 1: 0  0", "0\t1: 0", "0 1:\t0")
        self.assert_refused(BadText, "0 1: 0 ", "0 1: 0\t", "0 1: 0 \n0 1: 0", " 0 1: 0", "0 1: 0\n 0 1: 0")
        self.assert_refused(BadText, "0", "0 ", "0 1", " ", "  ", "   ", "\t", ":", "0 0 0", "0 1: 0 0 1: 0")

    def test_no_way(self):
        self.assert_refused(BadText, "0 1:", "0 1: ", "0 1:  ", "0 1: 0\n0 1:", "0 1:\n0 1: 0", "0 1:\t")

    def test_ways_that_are_no_numbers(self):
        self.assert_refused(BadText, "0 1: 00", "0 1: 01", "0 1: 0 09", "0 1: 000", "0 1: 001", "0 1: 100", "0 1: 999")
        self.assert_refused(BadText, "0 1: -1", "0 1: +0", "0 1: +1", "0 1: -0")
        self.assert_refused(BadText, "0 1: 1_0", "0 1: _", "0 1: 0_", "0 1: _0")
        self.assert_refused(BadText, "0 1: a", "0 1: 1a", "0 1: x1", "0 1: 0,0", "0 1: 0.", "0 1: 0\t0", "0 1: \t0")
        self.assert_refused(BadText, "0 1: 0\n0 1: 0 01", "0 1: 01\n0 1: 0", "0 1: " + "9" * 5000)

    def test_halls_that_are_refused(self):
        self.assert_refused(NoRoom, "0 1: 1", "0 1: 99", "0 1: 0 1", "0 1: 0\n0 1: 2", "0 1: 10\n1 1: 1 0")
        self.assert_refused(NotRising, "0 1: 0 0", "0 1: 1 0\n0 1: 0", "0 1: 0\n0 1: 1 1", "0 1: 1 0\n1 1: 10")
        self.assert_refused(NoRoom, "\n".join(["0 1: 80"] * 80))

    def test_bad_text_is_ahead_of_the_refusals_of_a_hall(self):
        self.assert_refused(BadText, "0 1: 9\n0 1:", "0 1: 1 0\n0 8: 0", "0 1: 9 01", "0 1: 0 0\n", "0 1: 9\n\n0 1: 0")
        self.assert_refused(BadText, "\n".join(["0 1: 99"] * 81), "\n".join(["0 1: 0 0"] * 81))

    def test_each_sign_of_a_text_left_out_put_in_and_changed(self):
        base = "0 3: 1 10\n1 7: 0 1"
        texts = {base[:k] + base[k + 1:] for k in range(len(base))}
        texts |= {base[:k] + sign + base[k:] for k in range(len(base) + 1) for sign in SIGNS}
        texts |= {base[:k] + sign + base[k + 1:] for k in range(len(base)) for sign in SIGNS}
        for text in sorted(texts):
            rows = [ROW.fullmatch(row) for row in text.split("\n")]
            if None in rows:
                self.assertIs(refusal_of(read, text), BadText, repr(text))
                continue
            hall = [(int(row[1]), int(row[2]), tuple(int(way) for way in row[3].split())) for row in rows]
            self.assertIs(refusal_of(read, text), first_fault(hall), repr(text))
            if first_fault(hall) is None:
                self.assertEqual(read(text), hall)

    def test_what_is_told_is_the_askers_own(self):
        hall = read(THREE_TEXT)
        hall[0] = None
        hall.append(7)
        self.assertEqual(read(THREE_TEXT), THREE)
        self.assertIsNot(read(THREE_TEXT), read(THREE_TEXT))


if __name__ == "__main__":
    unittest.main()

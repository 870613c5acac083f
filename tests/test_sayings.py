import inspect
import itertools
import random
import re
import unittest

from samples import own_parts, refusal_of, some_saying, some_short_saying, some_world

from everduel.errors import Again, BadText, DuelError, Free
from everduel.sayings import looked_saying, read_saying, shown_saying, turned
from everduel.worlds import true_at

ALL_SIGNS = [chr(code) for code in range(32, 127) if chr(code) != "%"] + ["\t", "\n"]
TOKENS = re.compile(r"<>|\[\]|[-+][XYZU]\.|!?[pqr]|[01XYZU]|[(&|)]")

P, Q, X, Y = ("mark", "p"), ("mark", "q"), ("name", "X"), ("name", "Y")

# Each kind, with its text and how many parts it has.
KINDS = (
    (("yes",), "1", 1),
    (("no",), "0", 1),
    (("mark", "p"), "p", 1),
    (("mark", "q"), "q", 1),
    (("mark", "r"), "r", 1),
    (("unmark", "p"), "!p", 1),
    (("unmark", "q"), "!q", 1),
    (("unmark", "r"), "!r", 1),
    (("some", P), "<>p", 2),
    (("every", P), "[]p", 2),
    (("both", P, Q), "(p&q)", 3),
    (("either", P, Q), "(p|q)", 3),
    (("least", "X", X), "-X.X", 2),
    (("most", "X", X), "+X.X", 2),
    (("least", "Y", Y), "-Y.Y", 2),
    (("most", "Z", ("name", "Z")), "+Z.Z", 2),
    (("least", "U", ("name", "U")), "-U.U", 2),
    (("most", "U", P), "+U.p", 2),
    (("both", P, P), "(p&p)", 3),
    (("some", ("every", ("some", ("yes",)))), "<>[]<>1", 4),
    (("both", ("either", P, Q), ("either", ("no",), ("unmark", "r"))), "((p|q)&(0|!r))", 7),
    (("least", "X", ("either", P, ("some", X))), "-X.(p|<>X)", 5),
    (("most", "X", ("least", "Y", ("either", ("both", P, X), ("some", Y)))), "+X.-Y.((p&X)|<>Y)", 8),
    (("both", ("least", "X", X), ("most", "X", X)), "(-X.X&+X.X)", 5),
)

# Statements that are refused, with their texts.
FREE = (
    (X, "X"),
    (("some", Y), "<>Y"),
    (("least", "X", Y), "-X.Y"),
    (("both", ("least", "X", X), X), "(-X.X&X)"),
    (("either", X, ("least", "X", X)), "(X|-X.X)"),
    (("both", P, ("every", ("name", "U"))), "(p&[]U)"),
    (("most", "X", ("both", ("least", "Y", Y), Y)), "+X.(-Y.Y&Y)"),
)
AGAIN = (
    (("least", "X", ("least", "X", X)), "-X.-X.X"),
    (("least", "X", ("most", "X", X)), "-X.+X.X"),
    (("most", "X", ("most", "X", P)), "+X.+X.p"),
    (("most", "Z", ("least", "Y", ("some", ("most", "Z", Y)))), "+Z.-Y.<>+Z.Y"),
    (("least", "X", ("both", X, ("both", P, ("least", "X", X)))), "-X.(X&(p&-X.X))"),
)


def own_saying(text):
    """The statement of a text, by shifting its words onto a pile and drawing together, or None."""
    if TOKENS.sub("", text) != "":
        return None
    pile = []
    for token in TOKENS.findall(text):
        leaf = {"1": ("yes",), "0": ("no",)}.get(token)
        if token[-1] in "pqr":
            leaf = ("mark", token) if len(token) == 1 else ("unmark", token[1])
        if token in ("X", "Y", "Z", "U"):
            leaf = ("name", token)
        pile.append(leaf if leaf is not None else token)
        while drawn_together(pile):
            pass
    return pile[0] if len(pile) == 1 and type(pile[0]) is tuple else None


def drawn_together(pile):
    """Make one statement of the last words of the pile, if they are one."""
    kinds = [type(each) is tuple for each in pile]
    if kinds[-2:] == [False, True] and len(pile[-2]) > 1:
        ahead, inner = pile[-2:]
        if ahead in ("<>", "[]"):
            pile[-2:] = [("some" if ahead == "<>" else "every", inner)]
        else:
            pile[-2:] = [("least" if ahead[0] == "-" else "most", ahead[1], inner)]
        return True
    if kinds[-5:] == [False, True, False, True, False] and pile[-5] == "(" and pile[-1] == ")":
        if pile[-3] in ("&", "|"):
            pile[-5:] = [("both" if pile[-3] == "&" else "either", pile[-4], pile[-2])]
            return True
    return False


def own_refusal(saying):
    """The refusal that point 10 asks for: all faults are gathered, the first one is taken."""
    parts = own_parts(saying)
    for path, part in parts:
        round_it = [each for other, each in parts if path[:len(other)] == other and path != other]
        bound = [each[1] for each in round_it if each[0] in ("least", "most")]
        if part[0] == "name" and part[1] not in bound:
            return Free
        if part[0] in ("least", "most") and part[1] in bound:
            return Again
    return None


def own_text_refusal(text):
    """The refusal that points 10 and 11 ask for."""
    saying = own_saying(text)
    if saying is None:
        return BadText
    parts = own_parts(saying)
    if len(parts) > 13 or max(len(path) for path, part in parts) + 1 > 10:
        return BadText
    return own_refusal(saying)


def with_any_names(rng, saying):
    """The statement with names and bindings by chance, so that it may be refused."""
    if saying[0] == "name":
        return ("name", rng.choice("XYZU"))
    name = rng.choice("XYZ")
    rows = [with_any_names(rng, part) if type(part) is tuple else part for part in saying[1:]]
    return (saying[0], name, rows[1]) if saying[0] in ("least", "most") else (saying[0], *rows)


def deep_text(deep, last="p"):
    """The text of a statement of so many statements, each within the one ahead."""
    return "<>" * (deep - 1) + last


def wide_saying(leaves, leaf=("mark", "p")):
    """A statement of so many leaves, shared out evenly."""
    if leaves == 1:
        return leaf
    return ("both", wide_saying(leaves // 2, leaf), wide_saying(leaves - leaves // 2, leaf))


class InterfaceTest(unittest.TestCase):
    def test_names_and_arguments(self):
        for function in (looked_saying, turned, shown_saying):
            self.assertEqual(list(inspect.signature(function).parameters), ["saying"])
        self.assertEqual(list(inspect.signature(read_saying).parameters), ["text"])


class LookedTest(unittest.TestCase):
    def test_how_many_parts(self):
        for saying, text, parts in KINDS:
            self.assertEqual(looked_saying(saying), parts, text)

    def test_free(self):
        for saying, text in FREE:
            self.assertIs(refusal_of(looked_saying, saying), Free, text)

    def test_again(self):
        for saying, text in AGAIN:
            self.assertIs(refusal_of(looked_saying, saying), Again, text)

    def test_the_first_in_the_order_of_the_text(self):
        again = ("least", "X", ("least", "X", X))
        for saying, refusal in (
            (("both", Y, again), Free),
            (("both", again, Y), Again),
            (("least", "X", ("both", Y, ("least", "X", X))), Free),
            (("least", "X", ("both", ("least", "X", Y), Y)), Again),
            (("least", "X", ("most", "X", Y)), Again),
            (("least", "Y", ("both", X, ("most", "Y", Y))), Free),
            (("either", ("some", ("some", X)), again), Free),
            (("either", ("some", ("some", again)), X), Again),
        ):
            self.assertIs(refusal_of(looked_saying, saying), refusal, saying)

    def test_bound_side_by_side(self):
        for one, two in itertools.product(("least", "most"), repeat=2):
            side = ("both", (one, "X", ("some", X)), (two, "X", ("every", X)))
            self.assertEqual(looked_saying(side), 7)
            self.assertEqual(looked_saying(("least", "Y", ("either", Y, side))), 10)

    def test_each_refusal_is_straight_under_duel_error(self):
        for refusal in (Free, Again, BadText):
            self.assertEqual(refusal.__bases__, (DuelError,))

    def test_the_same_statement_within_twice(self):
        one = ("least", "X", ("some", X))
        self.assertEqual(looked_saying(("both", one, one)), 7)
        self.assertIs(refusal_of(looked_saying, ("least", "X", ("both", X, one))), Again)

    def test_somewhat_beyond_the_bounds(self):
        for deep in (10, 11, 12, 20, 60):
            saying = P
            for _ in range(deep - 1):
                saying = ("some", saying)
            self.assertEqual(looked_saying(saying), deep)
        for leaves in (7, 8, 20, 50):
            self.assertEqual(looked_saying(wide_saying(leaves)), 2 * leaves - 1)

    def test_many_statements(self):
        rng = random.Random(21)
        seen = set()
        for _ in range(2000):
            saying = some_saying(rng, rng.randint(1, 7))
            self.assertEqual(looked_saying(saying), len(own_parts(saying)))
            other = with_any_names(rng, saying)
            self.assertIs(refusal_of(looked_saying, other), own_refusal(other), other)
            seen.add(own_refusal(other))
        self.assertEqual(seen, {None, Free, Again})


class ShownTest(unittest.TestCase):
    def test_each_kind_to_the_sign(self):
        for saying, text, parts in KINDS:
            self.assertEqual(shown_saying(saying), text)

    def test_statements_that_would_be_refused(self):
        for saying, text in FREE + AGAIN:
            self.assertEqual(shown_saying(saying), text)

    def test_somewhat_beyond_the_bounds(self):
        saying = ("mark", "q")
        for _ in range(40):
            saying = ("every", saying)
        self.assertEqual(shown_saying(saying), "[]" * 40 + "q")
        self.assertEqual(shown_saying(wide_saying(8)), "(((p&p)&(p&p))&((p&p)&(p&p)))")


class ReadTest(unittest.TestCase):
    def assert_refused(self, refusal, *texts):
        for text in texts:
            with self.subTest(text[:60]):
                self.assertIs(refusal_of(read_saying, text), refusal)

    def assert_tuples_and_texts(self, saying):
        self.assertIs(type(saying), tuple)
        for path, part in own_parts(saying):
            self.assertEqual({type(each) for each in part} - {tuple, str}, set())

    def test_each_kind(self):
        for saying, text, parts in KINDS:
            self.assertEqual(read_saying(text), saying)
            self.assert_tuples_and_texts(read_saying(text))

    def test_what_is_written_is_read_to_the_same(self):
        rng = random.Random(22)
        for _ in range(1000):
            saying = some_short_saying(rng)
            self.assertEqual(read_saying(shown_saying(saying)), saying)
            self.assert_tuples_and_texts(read_saying(shown_saying(saying)))

    def test_free_and_again(self):
        self.assert_refused(Free, *[text for saying, text in FREE])
        self.assert_refused(Again, *[text for saying, text in AGAIN])
        self.assert_refused(Free, "(Y&-X.-X.X)", "-X.(Y&-X.X)")
        self.assert_refused(Again, "(-X.-X.X&Y)", "-X.(-X.X&Y)", "-X.-X.Y")

    def test_too_few_signs(self):
        self.assert_refused(BadText, "", "!", "<", "<>", "[", "[]", "(", "(p", "(p&", "(p&q", "()", "(&)", "(p&)")
        self.assert_refused(BadText, "(&q)", "(p)", "(p|)", "-", "-X", "-X.", "+", "+X", "+X.", "-.p", "-Xp", ".p")
        self.assert_refused(BadText, "&", "p&q", "p|q", "p&q)", "-X.(p|<>X", "(p|-X.)", "(pq)", ".", "X.", ")")

    def test_too_many_signs(self):
        self.assert_refused(BadText, "11", "10", "pp", "pq", "XX", "p1", "(p&q))", "((p&q)", "(p&q)r", "p(p&q)")
        self.assert_refused(BadText, "!!p", "!1", "!X", "!(p&q)", "!<>p", "<>>p", "<<>p", "[[]p", "[]]p", "<>p<>")
        self.assert_refused(BadText, "(p&&q)", "(p||q)", "(p&|q)", "(p&q&r)", "(p|q|r)", "(p&q|r)", "--X.X", "-X..X")
        self.assert_refused(BadText, "-XX.X", "-XY.X", "-X.X.", "-X.X-", "+-X.X", "-+X.X", "-X.X)", "p.", "p!")

    def test_brackets_as_in_sums(self):
        self.assert_refused(BadText, "(p)", "((p))", "((p&q))", "<>(p)", "[](p&q)&r", "(p&q)&r", "-X.(X)", "(1)", "(X)")

    def test_blanks_tabs_and_line_ends(self):
        for sign in " \t\n":
            self.assert_refused(BadText, sign, sign + "p", "p" + sign, "!" + sign + "p", "<" + sign + ">p")
            self.assert_refused(BadText, "<>" + sign + "p", "[" + sign + "]p", "(p" + sign + "&q)", "(p&" + sign + "q)")
            self.assert_refused(BadText, "(" + sign + "p&q)", "(p&q" + sign + ")", "-" + sign + "X.X", "-X." + sign + "X")
            self.assert_refused(BadText, "-X" + sign + ".X", sign, sign * 2)

    def test_wrong_names_and_marks(self):
        self.assert_refused(BadText, "P", "Q", "R", "s", "a", "!s", "!P", "x", "y", "u", "V", "W", "T", "!", "2", "01")
        self.assert_refused(BadText, "-x.x", "-V.V", "+W.p", "-p.p", "-1.p", "+.p", "-X,X", "-X:X", "*X.X", "_X.X")
        self.assert_refused(BadText, "yes", "no", "true", "not p", "~p", "(p^q)", "(p+q)", "(p-q)", "{p&q}", "[p&q]")
        self.assert_refused(BadText, "><p", "][p", "(p)q&", ")p&q(", "<p>", "[p]", "<]p", "[>p")

    def test_ten_deep(self):
        self.assertEqual(len(own_parts(read_saying(deep_text(10)))), 10)
        self.assert_refused(BadText, deep_text(11), deep_text(12), deep_text(13), deep_text(14))
        self.assertEqual(shown_saying(read_saying("+X." + "[]" * 8 + "X")), "+X." + "[]" * 8 + "X")
        self.assert_refused(BadText, "+X." + "[]" * 9 + "X", "-X.-Y.-Z.-U." + "<>" * 6 + "1")
        for kind, left, right in itertools.product("&|", (1, 8, 9), (1, 2)):
            text = f"({deep_text(left)}{kind}{deep_text(right)})"
            self.assertIsNone(refusal_of(read_saying, text), text)
        self.assert_refused(BadText, f"({deep_text(10)}&1)", f"(1&{deep_text(10)})", f"(1|<>{deep_text(9)})")

    def test_thirteen_parts(self):
        thirteen = shown_saying(wide_saying(7))
        self.assertEqual(read_saying(thirteen), wide_saying(7))
        self.assert_refused(BadText, "<>" + thirteen, "-X." + thirteen, shown_saying(wide_saying(8)))
        twelve = "[]" + shown_saying(wide_saying(6))
        self.assertEqual(looked_saying(read_saying(twelve)), 12)
        self.assertEqual(looked_saying(read_saying("+X." + twelve)), 13)
        self.assert_refused(BadText, "<>+X." + twelve, f"({twelve}&1)", f"(1|{twelve})")

    def test_bounds_are_ahead_of_free_and_again(self):
        self.assert_refused(Free, deep_text(10, "X"), shown_saying(wide_saying(7, X)))
        self.assert_refused(BadText, deep_text(11, "X"), "<>" + shown_saying(wide_saying(7, X)))
        self.assert_refused(Again, "-X." * 9 + "X", "-X.-X." + "<>" * 7 + "X")
        self.assert_refused(BadText, "-X." * 10 + "X", "-X.-X." + "<>" * 8 + "X")
        self.assert_refused(BadText, "-X.-X." + shown_saying(wide_saying(6)) + "&", "(X&" + deep_text(10) + ")")
        self.assert_refused(Again, "-X.-X." + shown_saying(wide_saying(6, X)))
        self.assert_refused(BadText, "-X.-X.<>" + shown_saying(wide_saying(6, X)))

    def test_no_statement_is_ahead_of_free_and_again(self):
        self.assert_refused(BadText, "X)", "(X", "(X&", "(X&s)", "-X.-X.", "-X.-X.X ", "-X.Y.", "XY", "(Y&-X.-X.!)")

    def test_long_texts(self):
        for text in ("(", "<>", "[]", "-X.", "+U.", "(p&", "!", "p", "1", "X", ")", " ", "(p&q)", "-X.X"):
            self.assert_refused(BadText, text * 20000)
        self.assert_refused(BadText, "<>" * 5000 + "p", "(" * 5000 + "p" + "&p)" * 5000, "(p&" * 5000 + "p" + ")" * 5000)
        self.assert_refused(BadText, shown_saying(wide_saying(512)))

    def test_each_sign_left_out_put_in_and_changed(self):
        seen = set()
        for base in ("-X.(p|<>X)", "+Y.[](!q&-X.(X|Y))", "((0|1)&-Z.Z)"):
            texts = {base[:k] + base[k + 1:] for k in range(len(base))}
            texts |= {base[:k] + sign + base[k:] for k in range(len(base) + 1) for sign in ALL_SIGNS}
            texts |= {base[:k] + sign + base[k + 1:] for k in range(len(base)) for sign in ALL_SIGNS}
            for text in sorted(texts):
                refusal = own_text_refusal(text)
                seen.add(refusal)
                self.assertIs(refusal_of(read_saying, text), refusal, repr(text))
                if refusal is None:
                    self.assertEqual(read_saying(text), own_saying(text))
        self.assertEqual(seen, {None, BadText, Free, Again})

    def test_all_short_texts(self):
        signs = "1p!X<>[](&)-.~ "
        for many in range(5):
            for text in map("".join, itertools.product(signs, repeat=many)):
                self.assertIs(refusal_of(read_saying, text), own_text_refusal(text), repr(text))

    def test_many_statements_with_any_names_and_bounds(self):
        rng = random.Random(23)
        seen = set()
        for _ in range(3000):
            text = shown_saying(with_any_names(rng, some_saying(rng, rng.randint(1, 12))))
            refusal = own_text_refusal(text)
            seen.add(refusal)
            self.assertIs(refusal_of(read_saying, text), refusal, text)
        self.assertEqual(seen, {None, BadText, Free, Again})


class TurnedTest(unittest.TestCase):
    def test_each_kind(self):
        for text, other in (
            ("1", "0"), ("0", "1"), ("p", "!p"), ("q", "!q"), ("!r", "r"), ("<>p", "[]!p"), ("[]1", "<>0"),
            ("(p&q)", "(!p|!q)"), ("(!p|0)", "(p&1)"), ("-X.X", "+X.X"), ("+U.U", "-U.U"),
            ("-X.(p|<>X)", "+X.(!p&[]X)"), ("+Y.-X.((q&Y)|[]X)", "-Y.+X.((!q|Y)&<>X)"),
        ):
            self.assertEqual(turned(read_saying(text)), read_saying(other))
            self.assertEqual(shown_saying(turned(read_saying(text))), other)

    def test_turned_twice_is_the_same(self):
        rng = random.Random(24)
        for saying in [each[0] for each in KINDS] + [some_saying(rng, 6) for _ in range(500)]:
            self.assertEqual(turned(turned(saying)), saying)
            self.assertEqual(looked_saying(turned(saying)), looked_saying(saying))

    def test_tuples_and_texts_alone(self):
        for saying, text, parts in KINDS:
            for path, part in own_parts(turned(saying)):
                self.assertEqual({type(each) for each in part} - {tuple, str}, set())

    def test_holds_just_where_the_statement_does_not(self):
        rng = random.Random(25)
        for _ in range(1000):
            world, saying = some_world(rng, rng.randint(1, 6)), some_short_saying(rng)
            expected = [not held for held in true_at(world, saying)]
            self.assertEqual(true_at(world, turned(saying)), expected, (world, saying))

    def test_somewhat_beyond_the_bounds(self):
        saying, other = ("mark", "q"), ("unmark", "q")
        for _ in range(40):
            saying, other = ("every", saying), ("some", other)
        self.assertEqual(turned(saying), other)
        self.assertEqual(looked_saying(turned(wide_saying(20))), 39)


class ReckoningTest(unittest.TestCase):
    def test_own_reading(self):
        for saying, text, parts in KINDS:
            self.assertEqual(own_saying(text), saying)
        for text in ("", "(", "pp", "(p)", "<>", "-X.", "(p&q", "!", "!1", "-X", "(<>&p)", "p&q"):
            self.assertIsNone(own_saying(text), text)


if __name__ == "__main__":
    unittest.main()

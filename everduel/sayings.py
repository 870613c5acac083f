"""Statements: looked through, turned, written as a text, read from a text."""

from everduel.errors import Again, BadText, Free

MOST_DEEP = 10
MOST_PARTS = 13
MARKS = ("p", "q", "r")
NAMES = ("X", "Y", "Z", "U")
BINDERS = ("least", "most")

# What is written ahead of, between and behind the things that a statement holds.
SIGNS = {
    "yes": ("1",), "no": ("0",),
    "mark": ("", ""), "unmark": ("!", ""),
    "some": ("<>", ""), "every": ("[]", ""),
    "both": ("(", "&", ")"), "either": ("(", "|", ")"),
    "least": ("-", ".", ""), "most": ("+", ".", ""),
    "name": ("", ""),
}
TURNED = {
    "yes": "no", "no": "yes",
    "mark": "unmark", "unmark": "mark",
    "some": "every", "every": "some",
    "both": "either", "either": "both",
    "least": "most", "most": "least",
    "name": "name",
}

# How the reader tells the kinds apart by a sign.
PLAIN = {"1": "yes", "0": "no"}
STEPS = {"<": ("some", ">"), "[": ("every", "]")}
PAIRS = {"&": "both", "|": "either"}
BINDS = {"-": "least", "+": "most"}


def within(saying):
    """The statements straight in the statement, from left to right."""
    return [part for part in saying[1:] if isinstance(part, tuple)]


def size_of(saying):
    """How many parts the statement has."""
    return 1 + sum([size_of(part) for part in within(saying)])


def looked_saying(saying):
    """How many parts the statement has; Free or Again at its first fault."""
    look_at_names(saying, ())
    return size_of(saying)


def look_at_names(saying, bound):
    """Refuse the first name that is not bound, or bound again; bound are the names that are bound round it."""
    inner = bound
    if saying[0] == "name" and saying[1] not in bound:
        raise Free("no least or most round a name binds it")
    if saying[0] in BINDERS:
        if saying[1] in bound:
            raise Again("a least or most binds a name that is bound round it already")
        inner = bound + (saying[1],)
    for part in within(saying):
        look_at_names(part, inner)


def turned(saying):
    """The statement that holds just where this one does not."""
    parts = [turned(part) if isinstance(part, tuple) else part for part in saying[1:]]
    return (TURNED[saying[0]],) + tuple(parts)


def shown_saying(saying):
    """The text of a statement, also of one that is refused by looked_saying."""
    signs = SIGNS[saying[0]]
    text = signs[0]
    for part, behind in zip(saying[1:], signs[1:]):
        text = text + (shown_saying(part) if isinstance(part, tuple) else part) + behind
    return text


def read_saying(text):
    """The statement that the text writes; BadText, then the refusals of looked_saying."""
    reader = Reader(text)
    saying = read_part(reader, 1)
    if reader.spot < len(text):
        raise BadText("something stands behind the statement")
    if size_of(saying) > MOST_PARTS:
        raise BadText(f"more than {MOST_PARTS} parts")
    looked_saying(saying)
    return saying


class Reader:
    """A text, and the spot up to which it has been read."""

    def __init__(self, text):
        self.text = text
        self.spot = 0

    def sign(self):
        """Read the sign at the spot; behind the end it is an empty text."""
        self.spot = self.spot + 1
        return self.text[self.spot - 1:self.spot]

    def one_of(self, signs):
        """Read one of these signs, or refuse the text."""
        sign = self.sign()
        if sign not in signs:
            raise BadText("another sign is asked for")
        return sign


def read_part(reader, deep):
    """Read the statement that begins at the reader's spot, so deep within the whole one."""
    # Refused on the way down: a text may open more brackets than calls can go deep.
    if deep > MOST_DEEP:
        raise BadText(f"more than {MOST_DEEP} deep")
    sign = reader.sign()
    if sign in PLAIN:
        return (PLAIN[sign],)
    if sign in MARKS:
        return ("mark", sign)
    if sign in NAMES:
        return ("name", sign)
    if sign == "!":
        return ("unmark", reader.one_of(MARKS))
    if sign == "(":
        return read_pair(reader, deep)
    if sign in STEPS:
        reader.one_of((STEPS[sign][1],))
        return (STEPS[sign][0], read_part(reader, deep + 1))
    if sign in BINDS:
        name = reader.one_of(NAMES)
        reader.one_of((".",))
        return (BINDS[sign], name, read_part(reader, deep + 1))
    raise BadText("no statement begins so")


def read_pair(reader, deep):
    """Read on behind the bracket that opens a both or an either."""
    left = read_part(reader, deep + 1)
    kind = PAIRS[reader.one_of(("&", "|"))]
    right = read_part(reader, deep + 1)
    reader.one_of((")",))
    return (kind, left, right)

"""What several tests need: seals reckoned apart from the program, and things that clash."""

FACTOR = 1234567890123456789
PRIME = 2 ** 61 - 1


def folded(codes):
    """The seal of a row of codes, by point 7's words."""
    h = 7
    for code in codes:
        h = (h * FACTOR + code) % PRIME
    return h + 1


def number_sealed(seal, start=0):
    """A whole number (a thing) with that seal, no less than start * 10 ** 15 - 10 ** 30."""
    target = (seal - 1 - ((7 * FACTOR + 2) * FACTOR * FACTOR)) % PRIME
    high = start
    while (target - high * FACTOR) % PRIME >= 10 ** 15:
        high += 1
    return high * 10 ** 15 + (target - high * FACTOR) % PRIME - 10 ** 30


def twins_of(codes, many=1):
    """Unlike whole numbers, so many of them, each with the seal of a row of codes."""
    found = []
    start = 0
    while len(found) < many:
        found.append(number_sealed(folded(codes), start))
        start = (found[-1] + 10 ** 30) // 10 ** 15 + 1
    return found


def nested(deep, innermost=()):
    """A tuple in which tuples stand so deep, the innermost one counted."""
    thing = innermost
    for number in range(deep - 1):
        thing = (thing,)
    return thing


def brief(value):
    """A few signs that tell a failing value, also where it is too deep or too great to be written."""
    try:
        return repr(value)[:80]
    except (ValueError, RecursionError):
        return "a value that can't be written"


class Odd:
    """A value that is none of Python's own."""


def no_things():
    """Values that are no things, of many kinds, new ones at each call."""
    return [
        True, False, [], [1], {}, {"a": 1}, set(), frozenset(), 1.0, 0.0, float("nan"), 1j, b"", b"a",
        bytearray(b"a"), Odd(), Odd, len, range(3), ..., NotImplemented,
        10 ** 30 + 1, -10 ** 30 - 1, 10 ** 31, -10 ** 400, 10 ** 5000,
        "a" * 61, " " * 10000, "%", "50%", "a\nb", "\n", "\t", "a\tb", "\x1f", "\x7f", "\x00", "\x80", "\u00e4",
        "\u20ac", "\ud800", "\u0664", "a" * 59 + "%", "\r",
        (0,) * 41, ((),) * 41, (None,) * 300, nested(6), nested(6, (1,)), nested(7), nested(200),
        (nested(5),), (1, nested(5)), (nested(5), 1), (nested(4), nested(5)),
    ]


def things():
    """Unlike things of each kind, in their order."""
    return [
        None,
        -10 ** 30, -10 ** 30 + 1, -10 ** 15, -10, -9, -1, 0, 1, 2, 9, 10, 11, 100, 10 ** 15 - 1, 10 ** 15, 10 ** 30,
        "", " ", "  ", " a", "!", "(", "-0", "0", "00", "1", "10", "9", ";", "A", "Z", "a", "a ", "aa", "ab", "abc",
        "abcdefg", "abcdefgh", "b", "n1;", "o", "t1:a", "~", "~" * 59, "~" * 60,
        (), (None,), (None, None), (None, 1), (-1,), (0,), (0, None), (0, 0), (0, "a"), (0, ()), (1,), (1, 2),
        (1, 2, 3), (1, 3), (2,), (10,), ("",), ("a",), ("a", None), ("a", 5), ("aa",), ("b",), ((),), ((), None),
        ((), ()),
        ((None,),), ((0, 1),), ((0, 1), 5), ((0, 1, 2),), (("a",), ()), nested(3), nested(4), nested(5),
        nested(5, ("z",)), nested(5, ("~" * 60,) * 40),
    ]

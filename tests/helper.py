"""What several tests need: seals and trees reckoned apart from the program, and things that clash."""

FACTOR = 1234567890123456789
PRIME = 2 ** 61 - 1


def folded(codes):
    """The seal of a row of codes, by point 7's words."""
    h = 7
    for code in codes:
        h = (h * FACTOR + code) % PRIME
    return h + 1


def codes_of(thing):
    """The row of codes of a thing, by point 7's words."""
    if thing is None:
        return [1]
    if isinstance(thing, int):
        return [2, (thing + 10 ** 30) // 10 ** 15, (thing + 10 ** 30) % 10 ** 15]
    if isinstance(thing, str):
        sevens = [thing[start:start + 7] for start in range(0, len(thing), 7)]
        return [3, len(thing)] + [sum(ord(sign) * 128 ** power for power, sign in enumerate(reversed(signs)))
                                  for signs in sevens]
    return [4, len(thing)] + [code for part in thing for code in codes_of(part)]


def number_between(before, behind, seal, start=0):
    """A whole number (a thing) by which a row of codes, its own between those before and behind, has that seal.

    It is no less than start * 10 ** 15 - 10 ** 30.
    """
    power = pow(FACTOR, len(behind), PRIME)
    rest = seal - folded(before + [2, 0, 0] + behind)
    target = rest * pow(power, -1, PRIME) % PRIME
    high = start
    while (target - high * FACTOR) % PRIME >= 10 ** 15:
        high += 1
    return high * 10 ** 15 + (target - high * FACTOR) % PRIME - 10 ** 30


def twins_of(codes, many=1, start=0):
    """Unlike whole numbers, so many of them, each with the seal of a row of codes."""
    return numbers_between([], [], folded(codes), many, start)


def numbers_between(before, behind, seal, many, start=0):
    """As number_between, so many of them, rising."""
    found = []
    while len(found) < many:
        found.append(number_between(before, behind, seal, start))
        start = (found[-1] + 10 ** 30) // 10 ** 15 + 1
    return found


def balance(apart):
    """Two whole numbers, neither 0, both far below 10 ** 12.

    Where a code becomes greater by the first one, and the code so many behind it by the second one, a seal stays.
    """
    factor = pow(FACTOR, apart, PRIME)
    # By Euclid's way down: each pair (rest, times) has rest like times * factor, but for whole primes.
    elder, younger = (PRIME, 0), (factor, 1)
    while younger[0] >= 2 ** 31:
        whole = elder[0] // younger[0]
        elder, younger = younger, (elder[0] - whole * younger[0], elder[1] - whole * younger[1])
    return younger[1], -younger[0]


def rank_of(key):
    """The rank of a key, by point 11's words."""
    return folded(codes_of(("rank", key)))


def alike_in_rank(key, many, start=0):
    """Whole numbers, so many of them, rising, each a key with the rank of a key."""
    return numbers_between([4, 2] + codes_of("rank"), [], rank_of(key), many, start)


def order_of(thing):
    """What a sort may go by, in the order of things."""
    if thing is None:
        return (0,)
    if isinstance(thing, int):
        return (1, thing)
    if isinstance(thing, str):
        return (2, thing)
    return (3, tuple(order_of(part) for part in thing))


def in_order(pairs):
    """The pairs of a dict from keys to worths, rising."""
    return sorted(pairs.items(), key=lambda pair: order_of(pair[0]))


def reckoned(pairs):
    """The tree of a dict from keys to worths, by the words of points 10 and 11: its root, and a dict of its nodes."""
    if not pairs:
        return 0, {}
    top = min(pairs, key=lambda key: (-rank_of(key), order_of(key)))
    left, nodes = reckoned({key: pairs[key] for key in pairs if order_of(key) < order_of(top)})
    right, others = reckoned({key: pairs[key] for key in pairs if order_of(key) > order_of(top)})
    node = (top, pairs[top], left, right, len(pairs))
    return folded(codes_of(node)), {**nodes, **others, folded(codes_of(node)): node}


def way(nodes, root, key):
    """The roots on the way from a root to a key's place, down to the key's own node where it stands."""
    roots = []
    while root != 0:
        roots.append(root)
        node = nodes[root]
        if node[0] == key:
            break
        root = node[2] if order_of(key) < order_of(node[0]) else node[3]
    return roots


def edge(nodes, root, side):
    """The roots from a root on along one side: 2 for the left one, 3 for the right one."""
    roots = []
    while root != 0:
        roots.append(root)
        root = nodes[root][side]
    return roots


def laid(vault, pairs):
    """The root of the tree of a dict from keys to worths, when its nodes are laid into a vault."""
    root, nodes = reckoned(pairs)
    for node in nodes.values():
        vault.lay(node)
    return root


def reckoned_state(tables):
    """The state of a dict from names to tuples (columns, rows, numbers of the columns with an order).

    By the words of point 23: its root, and a dict of the nodes of all of its trees.
    """
    nodes, pairs = {}, {}
    for name, (columns, rows, numbers) in tables.items():
        rows_root, more = reckoned({row[0]: row for row in rows})
        nodes.update(more)
        orders = []
        for number in sorted(numbers):
            root, more = reckoned({(row[number], row[0]): 1 for row in rows})
            nodes.update(more)
            orders.append((number, root))
        pairs[name] = (columns, rows_root, tuple(orders))
    root, more = reckoned(pairs)
    return root, {**nodes, **more}


def laid_state(vault, tables):
    """The root of the state of reckoned_state, when its nodes are laid into a vault."""
    root, nodes = reckoned_state(tables)
    for node in nodes.values():
        vault.lay(node)
    return root


def states():
    """Dicts as reckoned_state wants them, of several sorts."""
    people = [(1, "ann", 31), (2, "bob", 27), (3, "cleo", 31), (10, "", -5), ("x", "bob", "27"), ("", 0, 0)]
    towns = [("bonn", -10 ** 12), ("", 5), ("ghent", 10 ** 12), (0, "a b"), (-7, "~" * 20)]
    bare = ("people", (("key", "name", "age"), [], []))
    return [
        {}, dict([bare]), {"a": (("a",), [(number,) for number in range(20)], [])},
        {"people": (("key", "name", "age"), people, [1, 2])}, {"people": (("key", "name", "age"), people, [2])},
        {"towns": (("town", "people"), towns, [1]), "people": (("key", "name", "age"), people, [1]),
         "empty": (("b", "a"), [], [1]), "abcdefgh": (("a", "b", "c", "d", "e", "f"), [(1, 2, 3, 4, 5, 6)], [1, 3, 5])},
    ]


def spread(many):
    """Whole numbers, so many of them, rising, whose ranks go up and down."""
    return [number * number * 10 ** 15 for number in range(many)]


def trees():
    """Dicts from keys to worths, of several sorts."""
    # Of small numbers each one's rank is that of the one ahead and one: their tree is all one way.
    chain = {number: ("row", number) for number in range(0, 24, 2)}
    # Of spread ones it has ways of many sorts.
    wide = {number: number // 10 ** 15 for number in spread(40)}
    # Numbers of one rank make nodes of one seal, too, where their worths are alike: so all of these are unlike.
    alike = alike_in_rank(10 ** 15, 2) + [10 ** 15] + alike_in_rank(10 ** 15, 2, 10 ** 15 + 2)
    alike += ["abcdefgh"] + alike_in_rank("abcdefgh", 2)
    tied = {key: ("tied", place) for place, key in enumerate(alike + spread(8)[2:])}
    mixed = {key: ("of", place) for place, key in enumerate(things()[1:60:2])}
    return [{}, {5: "w"}, {5: "w", 6: "w"}, {6: 1, 5: 2, "a": 3}, chain, wide, tied, mixed]


def bounds_for(pairs):
    """Keys for asking a tree of these pairs: its own, some that aren't there, far ones."""
    others = [-10 ** 30, -1, 1, 10 ** 15 - 1, 3 * 10 ** 15, 10 ** 30, "", "a", "zz", (), ("a",), ((),)]
    keys = list(pairs)
    return sorted(keys[:9] + keys[-9:] + [key for key in others if key not in pairs], key=order_of)


def bad_nodes():
    """Things that are none of a node, of each kind that point 18 tells; each has its own reason alone."""
    good = (5, "w", 0, 0, 1)
    found = [None, 0, 7, "", "node", (), (5,), good[:4], good + (0,), (good,), (good, good)]
    for place, wrong in [(0, [None]), (1, [None]),
                         (2, [-1, -10 ** 30, None, "", "0", (), (0,)]), (3, [-1, -10 ** 30, None, "", "0", (), (0,)]),
                         (4, [0, -1, 301, 302, 10 ** 30, None, "", "1", (), (1,)])]:
        found.extend(good[:place] + (thing,) + good[place + 1:] for thing in wrong)
    return found


def nested(deep, innermost=()):
    """A tuple in which tuples stand so deep, the innermost one counted."""
    thing = innermost
    for number in range(deep - 1):
        thing = (thing,)
    return thing


def brief(value):
    """A few signs that tell a failing value, also where it is too deep or too great to be written."""
    try:
        return repr(value)[:80]
    except (ValueError, RecursionError):
        return "a value that can't be written"


class Odd:
    """A value that is none of Python's own."""


def no_things():
    """Values that are no things, of many kinds, new ones at each call."""
    return [
        True, False, [], [1], {}, {"a": 1}, set(), frozenset(), 1.0, 0.0, float("nan"), 1j, b"", b"a",
        bytearray(b"a"), Odd(), Odd, len, range(3), ..., NotImplemented,
        10 ** 30 + 1, -10 ** 30 - 1, 10 ** 31, -10 ** 400, 10 ** 5000,
        "a" * 61, " " * 10000, "%", "50%", "a\nb", "\n", "\t", "a\tb", "\x1f", "\x7f", "\x00", "\x80", "\u00e4",
        "\u20ac", "\ud800", "\u0664", "a" * 59 + "%", "\r",
        (0,) * 41, ((),) * 41, (None,) * 300, nested(6), nested(6, (1,)), nested(7), nested(200),
        (nested(5),), (1, nested(5)), (nested(5), 1), (nested(4), nested(5)),
    ]


def things():
    """Unlike things of each kind, in their order."""
    return [
        None,
        -10 ** 30, -10 ** 30 + 1, -10 ** 15, -10, -9, -1, 0, 1, 2, 9, 10, 11, 100, 10 ** 15 - 1, 10 ** 15, 10 ** 30,
        "", " ", "  ", " a", "!", "(", "-0", "0", "00", "1", "10", "9", ";", "A", "Z", "a", "a ", "aa", "ab", "abc",
        "abcdefg", "abcdefgh", "b", "n1;", "o", "t1:a", "~", "~" * 59, "~" * 60,
        (), (None,), (None, None), (None, 1), (-1,), (0,), (0, None), (0, 0), (0, "a"), (0, ()), (1,), (1, 2),
        (1, 2, 3), (1, 3), (2,), (10,), ("",), ("a",), ("a", None), ("a", 5), ("aa",), ("b",), ((),), ((), None),
        ((), ()),
        ((None,),), ((0, 1),), ((0, 1), 5), ((0, 1, 2),), (("a",), ()), nested(3), nested(4), nested(5),
        nested(5, ("z",)), nested(5, ("~" * 60,) * 40),
    ]

"""Trees: what is found in them, and the roots behind puts, cuts, partings and joinings."""

from papervault.errors import BadThing
from papervault.nodes import BENEATH_NONE, COUNT, KEY, LEFT, RIGHT, WORTH
from papervault.nodes import above, node_beneath, size, size_beneath
from papervault.things import ahead


def side_of(node, key):
    """LEFT or RIGHT: in which of a node's two trees a key that isn't the node's own has its place."""
    return RIGHT if ahead(node[KEY], key) else LEFT


def way_to(vault, root, key):
    """The nodes on the way from a root to a key's place, as a list: the last one is the key's own where it stands."""
    way = []
    count = BENEATH_NONE
    while root != 0:
        node = node_beneath(vault, root, count)
        way.append(node)
        if node[KEY] == key:
            return way
        root = node[side_of(node, key)]
        count = node[COUNT]
    return way


def ends_at(way, key):
    """Whether a way to a key ends at the key's own node."""
    return len(way) > 0 and way[-1][KEY] == key


def found(vault, root, key):
    """The worth of a key, or None; NoPaper, BadThing."""
    way = way_to(vault, root, key)
    return way[-1][WORTH] if ends_at(way, key) else None


def is_empty(low, high):
    """Whether a stretch has no keys by its bounds alone."""
    return low is not None and high is not None and not ahead(low, high)


def goes_left(node, low):
    """Whether a stretch from low on goes on into a node's left tree."""
    return low is None or ahead(low, node[KEY])


def goes_right(node, high):
    """Whether a stretch up to below high goes on into a node's right tree."""
    return high is None or ahead(node[KEY], high)


def refuse_sum(vault, node):
    """Tells nothing; BadThing where the counts of a node's two trees and one don't come to its own."""
    left = size_beneath(vault, node[LEFT], node[COUNT])
    right = size_beneath(vault, node[RIGHT], node[COUNT])
    if left + right + 1 != node[COUNT]:
        raise BadThing("the counts of a node's trees don't come to its own")


def stretch(vault, root, low, high):
    """The pairs of a stretch, as a list of tuples (key, worth), rising; NoPaper, BadThing."""
    pairs = []
    if is_empty(low, high):
        return pairs
    begun = []
    count = BENEATH_NONE
    while root != 0 or len(begun) > 0:
        if root != 0:
            node = node_beneath(vault, root, count)
            # Else a paper could lead both sides to one tree, again and again, and the walk would not end.
            if goes_left(node, low) and goes_right(node, high):
                refuse_sum(vault, node)
            begun.append(node)
            root = node[LEFT] if goes_left(node, low) else 0
        else:
            node = begun.pop()
            if goes_right(node, high):
                if low is None or not ahead(node[KEY], low):
                    pairs.append((node[KEY], node[WORTH]))
                root = node[RIGHT]
        count = node[COUNT]
    return pairs


def count_ahead(vault, root, key):
    """How many keys of a tree are ahead of a key; NoPaper, BadThing."""
    many = 0
    for node in way_to(vault, root, key):
        if ahead(key, node[KEY]):
            continue
        many = many + size_beneath(vault, node[LEFT], node[COUNT])
        if node[KEY] != key:
            many = many + 1
    return many


def counted(vault, root, low, high):
    """How many pairs a stretch has; NoPaper, BadThing."""
    if is_empty(low, high):
        return 0
    many = size(vault, root) if high is None else count_ahead(vault, root, high)
    if low is None:
        return many
    return many - count_ahead(vault, root, low)


def nth(vault, root, number):
    """The pair (key, worth) of a number, counted from 0, or None; NoPaper, BadThing."""
    if number < 0:
        return None
    count = BENEATH_NONE
    while root != 0:
        node = node_beneath(vault, root, count)
        count = node[COUNT]
        if number >= count:
            return None
        left = size_beneath(vault, node[LEFT], count)
        if number == left:
            return (node[KEY], node[WORTH])
        if number < left:
            root = node[LEFT]
        else:
            root = node[RIGHT]
            number = number - left - 1
    return None


def with_tree(node, side, root, count):
    """A node with another tree on one side, and another count."""
    if side == LEFT:
        return (node[KEY], node[WORTH], root, node[RIGHT], count)
    return (node[KEY], node[WORTH], node[LEFT], root, count)


def hung(vault, way, key, root, more):
    """The root above a way to a key, under whose end a tree is hung that makes its counts greater by so many."""
    for node in reversed(way):
        root = vault.lay(with_tree(node, side_of(node, key), root, node[COUNT] + more))
    return root


def parted(vault, way, key, root, count):
    """The tuple of two roots of part, for a way to a key; at its end hangs a tree of keys ahead, of so many nodes."""
    left = root
    left_count = count
    right = 0
    right_count = 0
    for node in reversed(way):
        # What of a tree isn't in the one part is in the other: no node off the way is read for its count.
        if side_of(node, key) == RIGHT:
            left_count = node[COUNT] - right_count
            left = vault.lay(with_tree(node, RIGHT, left, left_count))
        else:
            right_count = node[COUNT] - left_count
            right = vault.lay(with_tree(node, LEFT, right, right_count))
    return (left, right)


def part(vault, root, key):
    """The roots of two trees, as a tuple: of the keys ahead of a key, and of the others; NoPaper, BadThing, Clash."""
    way = way_to(vault, root, key)
    if not ends_at(way, key):
        return parted(vault, way, key, 0, 0)
    own = way[-1]
    return parted(vault, way, key, own[LEFT], size_beneath(vault, own[LEFT], own[COUNT]))


def place_in(way, key):
    """How many nodes of a way to a key that doesn't stand there are above it."""
    for number, node in enumerate(way):
        if above(key, node[KEY]):
            return number
    return len(way)


def put(vault, root, key, worth):
    """The root behind putting a key with a worth; NoPaper, BadThing, Clash."""
    way = way_to(vault, root, key)
    if ends_at(way, key):
        own = way[-1]
        new = vault.lay((key, worth, own[LEFT], own[RIGHT], own[COUNT]))
        return hung(vault, way[:-1], key, new, 0)
    place = place_in(way, key)
    trees = parted(vault, way[place:], key, 0, 0)
    count = way[place][COUNT] if place < len(way) else 0
    new = vault.lay((key, worth, trees[0], trees[1], count + 1))
    return hung(vault, way[:place], key, new, 1)


def cut(vault, root, key):
    """The root behind cutting a key, also one that isn't there; NoPaper, BadThing, Clash."""
    way = way_to(vault, root, key)
    if not ends_at(way, key):
        return root
    own = way[-1]
    return hung(vault, way[:-1], key, joined(vault, own[LEFT], own[RIGHT], own[COUNT]), -1)


def join(vault, left, right):
    """The root of two trees, all keys of the first ahead of those of the second; NoPaper, BadThing, Clash."""
    return joined(vault, left, right, BENEATH_NONE)


def joined(vault, left, right, count):
    """The root of two trees that are read beneath a node with that count."""
    left_count = count
    right_count = count
    down = []
    while left != 0 and right != 0:
        one = node_beneath(vault, left, left_count)
        other = node_beneath(vault, right, right_count)
        both = one[COUNT] + other[COUNT]
        if above(one[KEY], other[KEY]):
            down.append((one, RIGHT, both))
            left = one[RIGHT]
            left_count = one[COUNT]
        else:
            down.append((other, LEFT, both))
            right = other[LEFT]
            right_count = other[COUNT]
    root = right if left == 0 else left
    for step in reversed(down):
        root = vault.lay(with_tree(step[0], step[1], root, step[2]))
    return root

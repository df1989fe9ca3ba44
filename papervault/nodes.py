"""Nodes of trees: how they are read, and which of two keys stands above the other."""

from papervault.errors import BadThing
from papervault.seals import seal
from papervault.things import ahead, is_whole

# The places in the tuple of a node.
KEY = 0
WORTH = 1
LEFT = 2
RIGHT = 3
COUNT = 4

MOST_NODES = 300

# Every node's count is below this one: it stands for the node above where there is none.
BENEATH_NONE = 301


def node_at(vault, root):
    """The node of a root that isn't 0; NoPaper, BadThing."""
    return node_beneath(vault, root, BENEATH_NONE)


def node_beneath(vault, root, count):
    """The node of a root that isn't 0, read beneath a node with that count; NoPaper, BadThing."""
    node = vault.thing(root)
    # As counts fall on every way down, each way comes to its end, whatever a paper says.
    if not is_node(node) or node[COUNT] >= count:
        raise BadThing("a thing that is read as a node is none, or none beneath the node above it")
    return node


def is_node(thing):
    """Whether a thing has the form of a node."""
    if not isinstance(thing, tuple) or len(thing) != 5:
        return False
    if thing[KEY] is None or thing[WORTH] is None:
        return False
    if not is_root(thing[LEFT]) or not is_root(thing[RIGHT]):
        return False
    return is_whole(thing[COUNT]) and 1 <= thing[COUNT] <= MOST_NODES


def is_root(thing):
    """Whether a thing has the form of a root."""
    return is_whole(thing) and thing >= 0


def size(vault, root):
    """How many nodes the tree of a root has; NoPaper, BadThing."""
    return size_beneath(vault, root, BENEATH_NONE)


def size_beneath(vault, root, count):
    """How many nodes the tree of a root has that is read beneath a node with that count; NoPaper, BadThing."""
    if root == 0:
        return 0
    return node_beneath(vault, root, count)[COUNT]


def rank(key):
    """The rank of a key: it hangs on the key alone, so that a tree has one shape for one content."""
    return seal(("rank", key))


def above(key, other):
    """Whether a key stands above the other: by their ranks, and by their order where these are alike."""
    mine = rank(key)
    its = rank(other)
    if mine != its:
        return mine > its
    return ahead(key, other)

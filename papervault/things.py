"""Things: what they are, their order, and how they are written and read back."""

from papervault.errors import NoThing

MOST_SIGNS = 60
MOST_PARTS = 40
MOST_DEEP = 5

# The greatest number has so many figures; more are refused ahead of reckoning with them.
MOST_FIGURES = 31

# By its number, as the sign itself may not stand in a text of the program.
PERCENT = 37


def is_whole(value):
    """Whether anything is a whole number: True and False are ints, but none."""
    return isinstance(value, int) and not isinstance(value, bool)


def is_thing(thing):
    """Whether anything is a thing."""
    return is_thing_within(thing, MOST_DEEP)


def is_thing_within(thing, deep):
    """Whether anything is a thing in which tuples stand at most so deep."""
    if isinstance(thing, tuple):
        return is_tuple_within(thing, deep)
    if isinstance(thing, str):
        return len(thing) <= MOST_SIGNS and has_signs_of_things(thing)
    if is_whole(thing):
        return abs(thing) <= 10 ** 30
    return thing is None


def is_tuple_within(parts, deep):
    """Whether a tuple is a thing in which tuples stand at most so deep."""
    if deep == 0 or len(parts) > MOST_PARTS:
        return False
    for part in parts:
        if not is_thing_within(part, deep - 1):
            return False
    return True


def has_signs_of_things(text):
    """Whether a text has no sign but those that a thing may have."""
    for sign in text:
        if not " " <= sign <= "~" or ord(sign) == PERCENT:
            return False
    return True


def kind_of(thing):
    """The place of a thing's kind in the order of things."""
    if thing is None:
        return 0
    if isinstance(thing, int):
        return 1
    if isinstance(thing, str):
        return 2
    return 3


def ahead(one, other):
    """Whether one thing is ahead of the other."""
    kind = kind_of(one)
    if kind != kind_of(other):
        return kind < kind_of(other)
    if one is None:
        return False
    if isinstance(one, tuple):
        return is_tuple_ahead(one, other)
    return one < other


def is_tuple_ahead(one, other):
    """Whether one tuple is ahead of the other: by the first place where they are unlike."""
    for mine, its in zip(one, other):
        if mine != its:
            return ahead(mine, its)
    return len(one) < len(other)


def written(thing):
    """The text of a thing."""
    if thing is None:
        return "o"
    if isinstance(thing, int):
        return f"n{thing};"
    if isinstance(thing, str):
        length = len(thing)
        return f"t{length}:{thing}"
    return "(" + "".join([written(part) for part in thing]) + ")"


def thing_in(text):
    """The thing of a text; NoThing where it is none of a thing."""
    read = read_thing(text, 0, MOST_DEEP)
    if read[1] != len(text):
        raise NoThing("something stands behind the thing")
    return read[0]


def read_thing(text, place, deep):
    """A tuple: the thing that is written at a place, and the place behind it."""
    first = text[place:place + 1]
    if first == "o":
        return (None, place + 1)
    if first == "n":
        return read_number(text, place + 1)
    if first == "t":
        return read_text(text, place + 1)
    if first == "(":
        return read_tuple(text, place + 1, deep)
    raise NoThing("no thing begins here")


def read_number(text, place):
    """As read_thing, of a number, from behind its `n`."""
    below = text[place:place + 1] == "-"
    figures = figures_at(text, place + 1 if below else place)
    if below and figures == "0":
        raise NoThing("0 is written with a minus")
    number = -int(figures) if below else int(figures)
    if not is_thing(number):
        raise NoThing("the number is too far from 0")
    end = place + len(figures) + (1 if below else 0)
    return (number, behind(text, end, ";"))


def read_text(text, place):
    """As read_thing, of a text, from behind its `t`."""
    figures = figures_at(text, place)
    begin = behind(text, place + len(figures), ":")
    end = begin + int(figures)
    found = text[begin:end]
    if end > len(text) or not is_thing(found):
        raise NoThing("the text is cut short, too long, or has a sign that no thing has")
    return (found, end)


def read_tuple(text, place, deep):
    """As read_thing, of a tuple, from behind its `(`."""
    if deep == 0:
        raise NoThing("tuples stand too deep")
    parts = []
    while text[place:place + 1] != ")":
        if len(parts) == MOST_PARTS:
            raise NoThing("the tuple has too many things")
        read = read_thing(text, place, deep - 1)
        parts.append(read[0])
        place = read[1]
    return (tuple(parts), place + 1)


def figures_at(text, place):
    """The figures that stand at a place; NoThing where they write no number as it is to be written."""
    end = place
    while "0" <= text[end:end + 1] <= "9":
        end = end + 1
    figures = text[place:end]
    if figures == "" or len(figures) > MOST_FIGURES or (figures[0] == "0" and figures != "0"):
        raise NoThing("no number is written here")
    return figures


def behind(text, place, sign):
    """The place behind a sign that has to stand at a place; NoThing where it doesn't."""
    if text[place:place + 1] != sign:
        raise NoThing("a sign lacks")
    return place + 1

"""Names of tables and columns, and the values in them."""

from papervault.things import has_signs_of_things, is_whole

MOST_LETTERS = 8
MOST_SIGNS = 20


def is_name(thing):
    """Whether anything is a name."""
    if not isinstance(thing, str) or not 1 <= len(thing) <= MOST_LETTERS:
        return False
    for sign in thing:
        if not "a" <= sign <= "z":
            return False
    return True


def is_value(thing):
    """Whether anything is a value."""
    if is_whole(thing):
        return abs(thing) <= 10 ** 12
    return isinstance(thing, str) and len(thing) <= MOST_SIGNS and has_signs_of_values(thing)


def has_signs_of_values(text):
    """Whether a text has no sign but those that a value may have."""
    return has_signs_of_things(text) and "'" not in text and ";" not in text

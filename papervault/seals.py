"""Seals: small numbers that stand for things."""


def seal(thing):
    """The seal of a thing, from 1 to 2 ** 61 - 1."""
    folded = 7
    for code in codes(thing):
        folded = (folded * 1234567890123456789 + code) % (2 ** 61 - 1)
    return folded + 1


def codes(thing):
    """The row of codes of a thing, as a list: unlike things have unlike rows."""
    if thing is None:
        return [1]
    if isinstance(thing, int):
        raised = thing + 10 ** 30
        return [2, raised // 10 ** 15, raised % 10 ** 15]
    if isinstance(thing, str):
        sevens = [thing[start:start + 7] for start in range(0, len(thing), 7)]
        return [3, len(thing)] + [number_of(signs) for signs in sevens]
    row = [4, len(thing)]
    for part in thing:
        row.extend(codes(part))
    return row


def number_of(signs):
    """The number that signs write to the base 128."""
    number = 0
    for sign in signs:
        number = number * 128 + ord(sign)
    return number

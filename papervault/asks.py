"""Asks: questions as objects, answered over a vault and a root."""

from papervault.trees import counted, cut, found, nth, put, stretch


class Ask:
    """A plain ask: it answers None."""

    def answer(self, vault, root):
        """The answer over a vault and a root; NoPaper, BadThing, Clash."""
        return None


class Find(Ask):
    """The worth of a key, or None."""

    def __init__(self, key):
        self.key = key

    def answer(self, vault, root):
        return found(vault, root, self.key)


class Stretch(Ask):
    """The pairs from low on up to below high."""

    def __init__(self, low, high):
        self.low = low
        self.high = high

    def answer(self, vault, root):
        return stretch(vault, root, self.low, self.high)


class Count(Ask):
    """How many pairs there are from low on up to below high."""

    def __init__(self, low, high):
        self.low = low
        self.high = high

    def answer(self, vault, root):
        return counted(vault, root, self.low, self.high)


class Nth(Ask):
    """The pair of a number, or None."""

    def __init__(self, number):
        self.number = number

    def answer(self, vault, root):
        return nth(vault, root, self.number)


class Put(Ask):
    """The root behind putting a key with a worth."""

    def __init__(self, key, worth):
        self.key = key
        self.worth = worth

    def answer(self, vault, root):
        return put(vault, root, self.key, self.worth)


class Cut(Ask):
    """The root behind cutting a key."""

    def __init__(self, key):
        self.key = key

    def answer(self, vault, root):
        return cut(vault, root, self.key)


class Also(Ask):
    """The list of the answers of several asks, each over the same root and one vault."""

    def __init__(self, asks):
        self.asks = list(asks)

    def answer(self, vault, root):
        return [ask.answer(vault, root) for ask in self.asks]

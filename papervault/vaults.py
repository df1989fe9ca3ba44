"""Vaults: they have things by their seals."""

from papervault.errors import BadThing, Clash, NoPaper
from papervault.seals import seal
from papervault.things import is_thing


def rising(laid):
    """The things of a dict from seals to things, as a list of their own, rising by seals."""
    return [laid[number] for number in sorted(laid)]


class Vault:
    """Things by their seals."""

    def __init__(self):
        self.laid = {}

    def refuse_clash(self, number, thing):
        """Tells nothing; Clash where an unlike thing with that seal was laid here."""
        if number in self.laid and self.laid[number] != thing:
            raise Clash(self.laid[number], thing)

    def lay(self, thing):
        """Lays a thing and tells its seal; Clash."""
        number = seal(thing)
        self.refuse_clash(number, thing)
        self.laid[number] = thing
        return number

    def thing(self, number):
        """The thing of a seal; NoPaper."""
        if number not in self.laid:
            raise NoPaper("there is no thing of that seal")
        return self.laid[number]


class Keeper(Vault):
    """The vault of who keeps the tables."""

    def things(self):
        """All things that were laid here, as a list, rising by seals."""
        return rising(self.laid)


class Reader(Vault):
    """A vault over a keeper's: it notes what it reads there, and lays nothing there."""

    def __init__(self, keeper):
        Vault.__init__(self)
        self.keeper = keeper
        self.noted = {}

    def lay(self, thing):
        """Lays a thing here alone and tells its seal; Clash, also with the keeper's things."""
        number = seal(thing)
        self.refuse_clash(number, thing)
        self.keeper.refuse_clash(number, thing)
        self.laid[number] = thing
        return number

    def thing(self, number):
        """The thing of a seal, noted where it is the keeper's; NoPaper."""
        # What was laid here a checker lays for itself: it needs no paper of it.
        if number in self.laid:
            return self.laid[number]
        read = self.keeper.thing(number)
        self.noted[number] = read
        return read

    def paper(self):
        """The things that were noted, each once, as a list, rising by seals."""
        return rising(self.noted)


class Witness(Vault):
    """A vault of what a paper says, and nothing else."""

    def __init__(self, paper):
        Vault.__init__(self)
        for thing in paper:
            if not is_thing(thing):
                raise BadThing("the paper has something that is no thing")
            self.lay(thing)

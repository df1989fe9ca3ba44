"""Clashes: what is shown of a checked answer that is not the keeper's."""

from papervault.errors import Clash, NoPaper, VaultError
from papervault.papers import answer_with_paper, checked
from papervault.seals import seal
from papervault.things import is_thing


def clashes_with(keeper, number, thing):
    """Whether a keeper has an unlike thing with that seal, the thing's own."""
    try:
        return keeper.thing(number) != thing
    except NoPaper:
        return False


def clash_of(paper, keeper):
    """A tuple (one, other): a thing of a paper and an unlike one of a keeper's with one seal, the lowest; or None."""
    clashing = {}
    for thing in paper:
        # What is no thing has no seal; checking refuses it.
        if is_thing(thing):
            number = seal(thing)
            if number not in clashing and clashes_with(keeper, number, thing):
                clashing[number] = thing
    if len(clashing) == 0:
        return None
    lowest = min(clashing)
    return (clashing[lowest], keeper.thing(lowest))


def shown(root, ask, paper, keeper):
    """`refused`, `right`, `clash` or `wrong`: what becomes of an ask over a paper, beside a keeper's answer."""
    try:
        told = checked(root, ask, paper)
    except VaultError:
        return "refused"
    try:
        if told == answer_with_paper(keeper, root, ask)[0]:
            return "right"
    except Clash:
        return "clash"
    except VaultError:
        # It lacks something, or has what is no node: then only a clash tells whose fault it is.
        pass
    return "wrong" if clash_of(paper, keeper) is None else "clash"

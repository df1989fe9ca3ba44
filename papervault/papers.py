"""Papers: a keeper's answer with its paper, and the checking of it."""

from papervault.vaults import Reader, Witness


def answer_with_paper(keeper, root, ask):
    """A tuple: the answer of an ask over a keeper's things, and the paper, the list of those that were read."""
    reader = Reader(keeper)
    answer = ask.answer(reader, root)
    return (answer, reader.paper())


def checked(root, ask, paper):
    """The answer of an ask over a paper alone; NoPaper, Clash, BadThing."""
    return ask.answer(Witness(paper), root)

"""A FEWEST PAPER of a DIAGRAM, that SHOWS as many heads as it has splits ([65], [66])."""

from waycircuits.nodes import twos
from waycircuits.ranks import FIRST, ranked


def fewest_paper(diagram):
    """A FEWEST PAPER: of each split one head that comes to it, what turns there, and what parts it from others."""
    order, splits = diagram
    triples = ranked(splits)
    heads = heads_of(order, triples)
    return tuple([paper_at(order, at, triples, heads) for at in range(len(order))])


def paper_at(order, at, triples, heads):
    """The triple (heads, turns, parts) of the name at this place; of its splits the heads are told, a dict by ranks."""
    name, behind = order[at], order[at + 1:]
    ranks = [rank for rank in range(FIRST, len(triples)) if triples[rank][0] == name]
    turns = [truths_apart(triples, behind, triples[rank][1:]) for rank in ranks]
    parts = [truths_apart(triples, order[at:], pair) for pair in twos(ranks)]
    return (tuple([heads[rank] for rank in ranks]), tuple(turns), tuple(parts))


def heads_of(order, triples):
    """Of each split, by its rank, truths of the names ahead of its own that lead to it from the ROOT: a dict."""
    places = {name: at for at, name in enumerate(order)}
    root = len(triples) - 1
    heads = {root: (False,) * places.get(triples[root][0], 0)}
    for rank in reversed(range(FIRST, len(triples))):
        name, *sides = triples[rank]
        for side, truth in zip(sides, (False, True)):
            if side >= FIRST and side not in heads:
                skipped = places[triples[side][0]] - places[name] - 1
                heads[side] = (*heads[rank], truth) + (False,) * skipped
    return heads


def truths_apart(triples, names, pair):
    """Truths of the names, those left in the ORDER, by which just one of two unlike ranks leads to True.

    In a REDUCED DIAGRAM other ROWS MEET unlike ranks: so where their sides False are like, those True are unlike.
    """
    truths = []
    left = pair
    for name in names:
        lows = [side_at(triples, rank, name, False) for rank in left]
        truth = lows[0] == lows[1]
        left = [side_at(triples, rank, name, True) for rank in left] if truth else lows
        truths.append(truth)
    return tuple(truths)


def side_at(triples, rank, name, truth):
    """The rank that this one leads to by the truth of the name, itself where it is none of this name."""
    own, low, high = triples[rank]
    if own != name:
        return rank
    return high if truth else low

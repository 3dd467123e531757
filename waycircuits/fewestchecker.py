"""The checker of any thing as a FEWEST PAPER of a DIAGRAM ([67])."""

from waycircuits.diagrams import leads_to_true
from waycircuits.errors import NoPaper
from waycircuits.nodes import twos


def lets_fewest(diagram, thing):
    """How many heads there are in all in the thing, a FEWEST PAPER of the DIAGRAM; or NoPaper(word, at)."""
    if not isinstance(thing, tuple) or not all([is_triple(triple) for triple in thing]):
        raise NoPaper("shape", -1)
    if len(thing) != len(diagram[0]):
        raise NoPaper("many", len(thing))
    for at in range(len(thing)):
        look_at_heads(thing[at], at)
        look_at_turns(diagram, thing[at], at)
        look_at_parts(diagram, thing[at], at)
    return sum([len(heads) for heads, _, _ in thing])


def is_triple(thing):
    """Whether the thing is a triple of tuples of tuples of truths."""
    return isinstance(thing, tuple) and len(thing) == 3 and all([are_all_truths(some) for some in thing])


def are_all_truths(thing):
    """Whether the thing is a tuple of tuples of truths."""
    return isinstance(thing, tuple) and all([are_truths(some) for some in thing])


def are_truths(thing):
    """Whether the thing is a tuple of truths."""
    return isinstance(thing, tuple) and all([isinstance(truth, bool) for truth in thing])


def look_at_heads(triple, at):
    """Refuse a head that hasn't a truth for each name ahead of this place."""
    for number, head in enumerate(triple[0]):
        if len(head) != at:
            raise NoPaper("head", (at, number))


def look_at_turns(diagram, triple, at):
    """Refuse turns that aren't as many as heads, or one that doesn't turn it behind its head."""
    heads, turns, _ = triple
    if len(turns) != len(heads):
        raise NoPaper("turns", at)
    for number, (head, turn) in enumerate(zip(heads, turns)):
        ways = [(*head, truth, *turn) for truth in (False, True)]
        if not just_one_meets(diagram, ways):
            raise NoPaper("turn", (at, number))


def look_at_parts(diagram, triple, at):
    """Refuse parts that aren't as many as twos of heads, or one that doesn't part its two."""
    heads, _, parts = triple
    if len(parts) != len(heads) * (len(heads) - 1) // 2:
        raise NoPaper("parts", at)
    for number, (pair, part) in enumerate(zip(twos(heads), parts)):
        ways = [(*head, *part) for head in pair]
        if not just_one_meets(diagram, ways):
            raise NoPaper("part", (at, number))


def just_one_meets(diagram, ways):
    """Whether both ways have a truth for each name, in the ORDER, and just one of both leads to True."""
    order = diagram[0]
    if not all([len(way) == len(order) for way in ways]):
        return False
    first, second = [leads_to_true(diagram, dict(zip(order, way))) for way in ways]
    return first != second

"""The checkers of any thing as a CASE TREE of two NODES, and of a CIRCUIT as PARTED ([44], [46])."""

from waycircuits.errors import NoPaper
from waycircuits.nodes import come_to, look_for_node, reached, refuted_by, twos
from waycircuits.trees import is_case_tree


def lets_apart(circuit, one, other, thing):
    """True, where the thing is a CASE TREE of the two NODES; or NoNumber, NoPaper(word, at)."""
    names, nodes = circuit
    look_for_node(nodes, one)
    look_for_node(nodes, other)
    if not is_case_tree(thing, {name: True for name in names}):
        raise NoPaper("shape", -1)
    way = way_astray(nodes, (one, other), thing)
    if way is not None:
        raise NoPaper("out", way)
    return True


def lets_parted(circuit):
    """True, where the CIRCUIT is PARTED; or NoPaper("out", at)."""
    nodes = circuit[1]
    for number in reached(nodes):
        if nodes[number][0] == "or":
            _, some, papers = nodes[number]
            for at, (pair, tree) in enumerate(zip(twos(some), papers)):
                way = way_astray(nodes, pair, tree)
                if way is not None:
                    raise NoPaper("out", (number, at, *way))
    return True


def way_astray(nodes, pair, tree):
    """The WAY to the first end that is come to whose NODE, of the pair, isn't REFUTED; None where each one's is."""
    numbers = [come_to(nodes, (number,)) for number in pair]
    waiting = [(tree, {}, ())]
    while waiting:
        end, truths, way = waiting.pop()
        if end[0] == "case":
            waiting.extend(behind_case(end, truths, way))
        elif not refuted_by(nodes, numbers[end[1]], truths)[pair[end[1]]]:
            return way
    return None


def behind_case(tree, truths, way):
    """What is come to behind a "case", with the truths told there and the WAY, a list: the last goes first."""
    _, name, low, high = tree
    below = (low, {**truths, name: False}, (*way, 0))
    above = (high, {**truths, name: True}, (*way, 1))
    if name not in truths:
        return [above, below]
    return [above] if truths[name] else [below]

"""Of what NODES of a CIRCUIT are made, side by side ([48] to [51]).

A side is a triple (numbers, literals, free): ROWS that MEET the NODES of these numbers and HAVE these LITERALS
MEET it, while the free names, UNDER its NODE but in none of both, may be either. A "split" has two, an "or" one
for each of its nodes, "false" none, each other NODE one. Behind all NODES stands the CIRCUIT, with one side: its ROOT.
"""

from waycircuits.nodes import masks_under, names_by, reached


def reached_sides(circuit):
    """The sides of the REACHED NODES, by their numbers, which rise: a dict of lists."""
    return sides_of(circuit, reached(circuit[1]))


def all_sides(circuit):
    """The sides of all NODES, whether REACHED or not."""
    return sides_of(circuit, list(range(len(circuit[1]))))


def sides_of(circuit, numbers):
    """The sides of these NODES, which rise, come to no others, and have the ROOT among them; those of the CIRCUIT."""
    names, nodes = circuit
    masks = masks_under(names, nodes, numbers)
    sides = {number: node_sides(names, nodes[number], masks[number], masks) for number in numbers}
    root = len(nodes) - 1
    out_of_root = ((1 << len(names)) - 1) ^ masks[root]
    sides[len(nodes)] = [((root,), (), names_by(names, out_of_root))]
    return sides


def node_sides(names, node, mask, masks):
    """The sides of a NODE with the NAMES of the mask UNDER it, a list."""
    kind = node[0]
    if kind == "false":
        return []
    if kind == "true":
        return [((), (), ())]
    if kind == "literal":
        return [((), (node[1:],), ())]
    if kind == "and":
        return [(node[1], (), ())]
    if kind == "or":
        return [((inner,), (), names_by(names, mask ^ masks[inner])) for inner in node[1]]
    _, name, low, high = node
    return [split_side(names, low, (name, False), mask ^ masks[low]),
            split_side(names, high, (name, True), mask ^ masks[high])]


def split_side(names, inner, literal, mask):
    """The side of a "split" with this LITERAL; names of the mask are not UNDER it, its own perhaps."""
    return ((inner,), (literal,), tuple([name for name in names_by(names, mask) if name != literal[0]]))

"""A CIRCUIT CONDITIONED by LITERALS PUT ([57])."""

from waycircuits.naming import look_for_names
from waycircuits.trees import tree_put


def conditioned(circuit, literals):
    """The CIRCUIT of the other NAMES, its NODES by their numbers; or NoName.

    What LITERALS refuted with those PUT among them is REFUTED by the others now: so papers stay right.
    """
    names, nodes = circuit
    look_for_names(names, [name for name, _ in literals])
    truths = dict(literals)
    left = tuple([name for name in names if name not in truths])
    return (left, tuple([node_put(node, truths) for node in nodes]))


def node_put(node, truths):
    """The NODE in the place of this one where names have these truths."""
    kind = node[0]
    if kind == "or":
        return ("or", node[1], tuple([tree_put(tree, truths) for tree in node[2]]))
    if (kind != "literal" and kind != "split") or node[1] not in truths:
        return node
    truth = truths[node[1]]
    if kind == "literal":
        return ("true",) if node[2] == truth else ("false",)
    return ("and", (node[3] if truth else node[2],))

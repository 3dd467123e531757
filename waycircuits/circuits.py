"""CIRCUITS: whether any thing is one, names under a NODE, what a ROW MEETS, which are DECOMPOSED ([40] to [42])."""

from waycircuits.nodes import come_to, inner_of, look_for_node, masks_under, names_by, reached, refuted_by
from waycircuits.trees import is_case_tree
from waycircuits.words import is_names, is_number, is_word


def is_circuit(thing):
    """Whether the thing is a CIRCUIT by kind: NAMES and one NODE or more; not whether its papers are right."""
    if not isinstance(thing, tuple) or len(thing) != 2:
        return False
    names, nodes = thing
    if not is_names(names) or not isinstance(nodes, tuple) or not nodes:
        return False
    told = {name: True for name in names}
    return all([is_node(node, number, told) for number, node in enumerate(nodes)])


def is_node(thing, number, names):
    """Whether the thing is a NODE by kind that may have this number, of the names, a dict's keys."""
    if not isinstance(thing, tuple) or not thing:
        return False
    kind, *rest = thing
    if kind == "true" or kind == "false":
        return not rest
    if kind == "literal":
        return len(rest) == 2 and is_one_of(rest[0], names) and isinstance(rest[1], bool)
    if kind == "and":
        return len(rest) == 1 and are_ahead(rest[0], number)
    if kind == "split":
        return len(rest) == 3 and is_one_of(rest[0], names) and are_ahead(thing[2:], number)
    if kind != "or" or len(rest) != 2:
        return False
    return are_ahead(rest[0], number) and are_papers(rest[1], len(rest[0]), names)


def is_one_of(thing, names):
    """Whether the thing is one of the names, a dict's keys."""
    return is_word(thing) and thing in names


def are_ahead(thing, number):
    """Whether the thing is a tuple of numbers of NODES ahead of this one."""
    return isinstance(thing, tuple) and all([is_number(inner) and 0 <= inner < number for inner in thing])


def are_papers(thing, many, names):
    """Whether the thing is a tuple of CASE TREES by kind, as many as there are twos of so many."""
    if not isinstance(thing, tuple) or len(thing) != many * (many - 1) // 2:
        return False
    return all([is_case_tree(tree, names) for tree in thing])


def names_under(circuit, node):
    """The NAMES UNDER the NODE; or NoNumber."""
    names, nodes = circuit
    look_for_node(nodes, node)
    return names_by(names, masks_under(names, nodes, come_to(nodes, (node,)))[node])


def met_by(circuit, row):
    """Whether the ROW of its NAMES MEETS the CIRCUIT."""
    return node_met(circuit, len(circuit[1]) - 1, row)


def node_met(circuit, node, row):
    """Whether the ROW of the NAMES MEETS the NODE; or NoNumber.

    A ROW tells all of NAMES, so it MEETS just what isn't REFUTED by it ([43]).
    """
    names, nodes = circuit
    look_for_node(nodes, node)
    return not refuted_by(nodes, come_to(nodes, (node,)), dict(zip(names, row)))[node]


def is_decomposed(circuit):
    """Whether the CIRCUIT is DECOMPOSED."""
    names, nodes = circuit
    numbers = reached(nodes)
    masks = masks_under(names, nodes, numbers)
    return all([has_sides_apart(nodes[number], masks, names) for number in numbers])


def has_sides_apart(node, masks, names):
    """Whether no two nodes of an "and" have a name UNDER both, and the name of a "split" isn't UNDER its nodes."""
    if node[0] != "and" and node[0] != "split":
        return True
    taken = 1 << names.index(node[1]) if node[0] == "split" else 0
    for inner in inner_of(node):
        if taken & masks[inner]:
            return False
        if node[0] == "and":
            taken = taken | masks[inner]
    return True

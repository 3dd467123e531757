"""Of two NODES a CASE TREE, or a ROW that MEETS both ([45]).

Names are given truths one by one, False ahead of True, until one of both NODES is REFUTED: that is an end of
the tree. LITERALS that a NODE is BOUND to, that is, by whose CONTRARIES it would be REFUTED, tell which name goes
next, so that trees stay small; they are bits of an int, all of them (-1) where the NODE is REFUTED already.
"""

from waycircuits.nodes import come_to, inner_of, look_for_node

REFUTED = -1


def apart(circuit, one, other):
    """The pair ("cases", CASE TREE), or ("row", ROW) of a ROW that MEETS both NODES; or NoNumber."""
    names, nodes = circuit
    look_for_node(nodes, one)
    look_for_node(nodes, other)
    numbers = come_to(nodes, (one, other))
    places = {name: 2 * at for at, name in enumerate(names)}
    truths = {}
    path = []
    while True:
        bound = bound_by(nodes, numbers, truths, places)
        if bound[one] == REFUTED or bound[other] == REFUTED:
            tree = climbed(path, truths, ("out", 0 if bound[one] == REFUTED else 1))
            if tree is not None:
                return ("cases", tree)
        else:
            found = [live_names(nodes, numbers, top, truths, bound) for top in (one, other)]
            name = name_to_part(found, bound[one] | bound[other], places)
            if name is None:
                return ("row", tuple([truths.get(other_name, False) for other_name in names]))
            path.append((name, None))
            truths[name] = False


def climbed(path, truths, tree):
    """Close with the tree each "case" on the path that it is the last side of: the whole tree, where all are.

    Else None: then the next one's other side is to be looked at. What is on the path is a pair of a name and of
    the tree behind its False, None while that is looked at.
    """
    while path:
        name, low = path.pop()
        if low is None:
            path.append((name, tree))
            truths[name] = True
            return None
        truths.pop(name)
        tree = ("case", name, low, tree)
    return tree


def bound_by(nodes, numbers, truths, places):
    """Of each of these NODES, which rise and come to no others, the LITERALS that it is BOUND to by the truths told."""
    bound = {}
    for number in numbers:
        bound[number] = bound_at(nodes[number], truths, bound, places)
    return bound


def bound_at(node, truths, bound, places):
    """The LITERALS that the NODE is BOUND to, where those are found that NODES are BOUND to which it is made of."""
    kind = node[0]
    if kind == "true" or kind == "false":
        return 0 if kind == "true" else REFUTED
    if kind == "literal":
        _, name, truth = node
        return REFUTED if truths.get(name, truth) != truth else literal_bit(name, truth, places)
    if kind == "split":
        _, name, low, high = node
        if name in truths:
            return bound[high] if truths[name] else bound[low]
        return (bound[low] | literal_bit(name, False, places)) & (bound[high] | literal_bit(name, True, places))
    if kind == "and":
        return bound_to_any([bound[inner] for inner in node[1]])
    return bound_to_all([bound[inner] for inner in node[1]])


def bound_to_any(masks):
    """The bits that stand in one of the masks."""
    found = 0
    for mask in masks:
        found = found | mask
    return found


def bound_to_all(masks):
    """The bits that stand in each of the masks."""
    found = REFUTED
    for mask in masks:
        found = found & mask
    return found


def literal_bit(name, truth, places):
    """The bit of a LITERAL."""
    return (2 if truth else 1) << places[name]


def live_names(nodes, numbers, top, truths, bound):
    """The names without a truth yet that the top NODE still hangs on, in the order from it down: a dict's keys."""
    live = {top: True}
    found = {}
    for number in reversed(numbers):
        if number in live:
            node = nodes[number]
            if (node[0] == "literal" or node[0] == "split") and node[1] not in truths:
                found[node[1]] = True
            live.update({inner: True for inner in sides_left(node, truths) if bound[inner] != REFUTED})
    return found


def sides_left(node, truths):
    """The numbers of the NODES that this one is made of, but those on the side of a "split" that its truth bars."""
    if node[0] == "split" and node[1] in truths:
        return node[3:] if truths[node[1]] else node[2:3]
    return inner_of(node)


def name_to_part(found, bound, places):
    """The name that goes next, of those that one or other NODE hangs on; None where neither hangs on any.

    One that ends on both sides at once; else one that both hang on, of these one that ends on one side at once.
    Where the CIRCUIT is DECOMPOSED those that only one of both hangs on are never part of a tree.
    """
    either = [*found[0], *found[1]]
    both = [name for name in found[0] if name in found[1]]
    for wanted, among in ((2, either), (1, both), (0, both), (1, either), (0, either)):
        for name in among:
            if ends_at_once(bound, places[name]) >= wanted:
                return name
    return None


def ends_at_once(bound, place):
    """On how many sides, 0 to 2, a "case" of the name at this place ends at once."""
    bits = bound >> place & 3
    return 2 if bits == 3 else min(bits, 1)

"""NODES of a CIRCUIT: those that they come to, those REACHED, NAMES UNDER them, those REFUTED ([7]).

NODES are by numbers of NODES ahead of them, so each is looked at behind all that it comes to.
"""

from waycircuits.errors import NoNumber


def look_for_node(nodes, number):
    """Refuse a NUMBER that no NODE has."""
    if not 0 <= number < len(nodes):
        raise NoNumber(number)


def inner_of(node):
    """The numbers of the NODES that this one is made of, a tuple."""
    kind = node[0]
    if kind == "split":
        return node[2:]
    if kind == "and" or kind == "or":
        return node[1]
    return ()


def come_to(nodes, tops):
    """The numbers, rising, of the tops and of the NODES that they come to, a list."""
    found = {number: True for number in tops}
    for number in reversed(range(max(tops) + 1)):
        if number in found:
            found.update({inner: True for inner in inner_of(nodes[number])})
    return sorted(found)


def reached(nodes):
    """The numbers, rising, of the REACHED NODES, a list."""
    return come_to(nodes, (len(nodes) - 1,))


def masks_under(names, nodes, numbers):
    """Of each of these NODES, which rise and come to no others, the NAMES UNDER it: bits of an int, by their places."""
    places = {name: at for at, name in enumerate(names)}
    masks = {}
    for number in numbers:
        node = nodes[number]
        mask = 0
        if node[0] == "literal" or node[0] == "split":
            mask = 1 << places[node[1]]
        for inner in inner_of(node):
            mask = mask | masks[inner]
        masks[number] = mask
    return masks


def names_by(names, mask):
    """The names whose bits are in the mask, a tuple."""
    return tuple([name for at, name in enumerate(names) if mask >> at & 1])


def refuted_by(nodes, numbers, truths):
    """Of each of these NODES, which rise and come to no others, whether it is REFUTED by LITERALS, a dict of truths."""
    found = {}
    for number in numbers:
        found[number] = refutes(nodes[number], truths, found)
    return found


def refutes(node, truths, found):
    """Whether the NODE is REFUTED, where it is found already whether those that it is made of are."""
    kind = node[0]
    if kind == "true" or kind == "false":
        return kind == "false"
    if kind == "literal":
        return node[1] in truths and truths[node[1]] != node[2]
    if kind == "and":
        return any([found[inner] for inner in node[1]])
    if kind == "or":
        return all([found[inner] for inner in node[1]])
    _, name, low, high = node
    if name in truths:
        return found[high] if truths[name] else found[low]
    return found[low] and found[high]


def twos(some):
    """All two of these numbers, by their places, in the order of papers: a list of pairs."""
    return [(one, other) for at, one in enumerate(some) for other in some[at + 1:]]

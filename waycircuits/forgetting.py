"""A CIRCUIT behind names FORGOTTEN ([58])."""

from waycircuits.cases import apart
from waycircuits.errors import NoParting
from waycircuits.naming import look_for_names
from waycircuits.nodes import reached, twos


def forgotten(circuit, names):
    """The CIRCUIT TURNED by the forgotten names, with papers; or NoName, NoParting."""
    look_for_names(circuit[0], names)
    turned = turned_by(circuit, names)
    left, nodes = turned
    made = list(nodes)
    for number in reached(nodes):
        if nodes[number][0] == "or":
            made[number] = parted(turned, number)
    return (left, tuple(made))


def turned_by(circuit, names):
    """The CIRCUIT TURNED by the forgotten names, its CASE TREES right by kind alone."""
    told = {name: True for name in names}
    left = tuple([name for name in circuit[0] if name not in told])
    return (left, tuple([node_turned(node, told) for node in circuit[1]]))


def node_turned(node, names):
    """The NODE in the place of this one where the names, a dict's keys, are forgotten."""
    kind = node[0]
    if kind == "or":
        return or_by_kind(node[1])
    if kind == "split" and node[1] in names:
        return or_by_kind(node[2:])
    if kind == "literal" and node[1] in names:
        return ("true",)
    return node


def or_by_kind(some):
    """An "or" of these NODES, with papers that aren't looked at yet."""
    return ("or", some, tuple([("out", 0) for _ in twos(some)]))


def parted(circuit, number):
    """The "or" of this number with papers; or NoParting where a ROW MEETS two of its nodes."""
    some = circuit[1][number][1]
    papers = []
    for one, other in twos(some):
        word, told = apart(circuit, one, other)
        if word == "row":
            raise NoParting(number, told)
        papers.append(told)
    return ("or", some, tuple(papers))

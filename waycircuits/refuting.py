"""Whether a NODE is REFUTED by LITERALS ([43])."""

from waycircuits.nodes import come_to, look_for_node, refuted_by


def refuted(circuit, node, literals):
    """Whether the NODE is REFUTED by the LITERALS, of unlike names; or NoNumber."""
    nodes = circuit[1]
    look_for_node(nodes, node)
    return refuted_by(nodes, come_to(nodes, (node,)), dict(literals))[node]

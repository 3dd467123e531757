"""The REDUCED DIAGRAM of a FORM, of a CIRCUIT, along an ORDER ([62])."""

from waycircuits.compiling import compiled
from waycircuits.forest import Forest


def diagram_of(form, *, order=()):
    """The DIAGRAM that the FORM's MODELS MEET, along the ORDER, () for that of the NAMES as they rise."""
    return diagram_from(compiled(form), order=order)


def diagram_from(circuit, *, order=()):
    """The DIAGRAM that the CIRCUIT's MODELS MEET, along the ORDER, () for that of the NAMES as they rise."""
    names, nodes = circuit
    forest = Forest(order or names)
    return forest.told(forest.root_of(nodes))

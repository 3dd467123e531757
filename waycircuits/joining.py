"""DIAGRAMS joined, turned the other way; LITERALS put in, names forgotten in ([63])."""

from waycircuits.conditioning import conditioned
from waycircuits.drawing import diagram_from
from waycircuits.forest import Forest
from waycircuits.forgetting import turned_by
from waycircuits.naming import look_for_names
from waycircuits.ranks import ENDS_TURNED, FALSE, TRUE, circuit_of


def both(one, other):
    """The DIAGRAM of the ROWS that MEET both DIAGRAMS, of one ORDER."""
    return combined_along(FALSE, one, other)


def either_one(one, other):
    """The DIAGRAM of the ROWS that MEET one of the DIAGRAMS, of one ORDER, or both."""
    return combined_along(TRUE, one, other)


def other_way(diagram):
    """The DIAGRAM of all other ROWS."""
    return diagram_from(circuit_of(diagram, ENDS_TURNED), order=diagram[0])


def put_in(diagram, literals):
    """The DIAGRAM, along the ORDER without their names, of the ROWS that with the LITERALS MEET it; or NoName."""
    circuit = conditioned(circuit_of(diagram), literals)
    return diagram_from(circuit, order=order_of(diagram, circuit[0]))


def forgotten_in(diagram, names):
    """The DIAGRAM, along the ORDER without the names, of the ROWS that some truths of these lead to MEET it; or NoName.

    A CIRCUIT that is TURNED need not be WELL BUILT to be drawn.
    """
    look_for_names(diagram[0], names)
    circuit = turned_by(circuit_of(diagram), names)
    return diagram_from(circuit, order=order_of(diagram, circuit[0]))


def combined_along(ending, one, other):
    """The DIAGRAM of both, along the ORDER of the one, combined by the ending."""
    forest = Forest(one[0])
    first, second = [forest.root_of(circuit_of(diagram)[1]) for diagram in (one, other)]
    return forest.told(forest.combined(ending, first, second))


def order_of(diagram, names):
    """The ORDER of the DIAGRAM, of these names alone."""
    kept = set(names)
    return tuple([name for name in diagram[0] if name in kept])

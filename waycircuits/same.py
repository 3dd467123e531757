"""Whether two DIAGRAMS are MET by the same ROWS, or which is the least ROW that parts them ([64])."""

from waycircuits.drawing import diagram_from
from waycircuits.joining import both, either_one, other_way, put_in
from waycircuits.ranks import circuit_of


def same_or_row(one, other):
    """The least ROW that MEETS one alone of two DIAGRAMS of the same NAMES, or None."""
    along = diagram_from(circuit_of(other), order=one[0])
    # DIAGRAMS aren't compared themselves: to Python a side False is the split 0.
    apart = either_one(both(one, other_way(along)), both(other_way(one), along))
    return None if apart[1] is False else least_row(apart)


def least_row(diagram):
    """The least ROW of its NAMES, as ROWS rise, that MEETS the DIAGRAM; there is one."""
    truths = []
    left = diagram
    for name in sorted(diagram[0]):
        below = put_in(left, ((name, False),))
        truth = below[1] is False
        left = put_in(left, ((name, True),)) if truth else below
        truths.append(truth)
    return tuple(truths)

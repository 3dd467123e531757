"""The checkers of any thing as a HEAVIEST PAPER, as a LIGHTEST one ([50], [51])."""

from waycircuits.circuits import met_by
from waycircuits.errors import NoPaper
from waycircuits.fractions import ONE, is_fraction, less
from waycircuits.sides import all_sides
from waycircuits.stretches import has_in_it, needed_stretch
from waycircuits.weights import pairs_of, weight_of


def lets_heaviest(circuit, weights, thing, *, free=ONE):
    """The weight of the thing, a HEAVIEST PAPER of the CIRCUIT; or NoPaper(word, at)."""
    return lets_paper(circuit, weights, thing, free, (1, "most"))


def lets_lightest(circuit, weights, thing, *, free=ONE):
    """The weight of the thing, a LIGHTEST PAPER of the CIRCUIT; or NoPaper(word, at)."""
    return lets_paper(circuit, weights, thing, free, (0, "least"))


def lets_paper(circuit, weights, thing, free, wanted):
    """The weight of the thing, a paper of this end of the REACH, told with the word for another one."""
    end, word = wanted
    look_at_model(circuit, weights, thing, free)
    reach = reach_by(circuit, weights, thing, free)
    if reach is None or reach[end] != thing[0]:
        raise NoPaper(word, -1)
    return thing[0]


def look_at_model(circuit, weights, thing, free):
    """Refuse a thing that is no paper by kind, or whose ROW is no MODEL, or not of its weight."""
    names, nodes = circuit
    if not is_paper(thing, len(names), len(nodes)):
        raise NoPaper("shape", -1)
    weight, row, _ = thing
    if not met_by(circuit, row):
        raise NoPaper("row", -1)
    if weight_of(names, row, weights, free=free) != weight:
        raise NoPaper("weight", -1)


def is_paper(thing, many_names, many_nodes):
    """Whether the thing is a triple of a FRACTION, a ROW of so many names, and BOUNDS of so many NODES by kind."""
    if not isinstance(thing, tuple) or len(thing) != 3:
        return False
    weight, row, bounds = thing
    if not is_fraction(weight) or not isinstance(row, tuple) or not isinstance(bounds, tuple):
        return False
    if len(row) != many_names or not all([isinstance(truth, bool) for truth in row]):
        return False
    return len(bounds) == many_nodes and all([bound is None or is_two_fractions(bound) for bound in bounds])


def is_two_fractions(thing):
    """Whether the thing is a pair of FRACTIONS, the least above the most or not."""
    return isinstance(thing, tuple) and len(thing) == 2 and is_fraction(thing[0]) and is_fraction(thing[1])


def reach_by(circuit, weights, thing, free):
    """The REACH by the BOUNDS of the thing; refused where those of a NODE don't HOLD."""
    names, nodes = circuit
    pairs = dict(zip(names, pairs_of(names, weights, free)))
    sides = all_sides(circuit)
    bounds = thing[2]
    for number in range(len(nodes)):
        if not holds(bounds[number], needed_stretch(sides[number], bounds, pairs)):
            raise NoPaper("bounds", number)
    return needed_stretch(sides[len(nodes)], bounds, pairs)


def holds(bound, needed):
    """Whether BOUNDS of a NODE have what they need to in them, anything where that is None."""
    if bound is None:
        return needed is None
    if less(bound[1], bound[0]):
        return False
    return needed is None or has_in_it(bound, needed)

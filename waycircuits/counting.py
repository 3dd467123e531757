"""The COUNT of a CIRCUIT, how many MODELS have so many names true, or have a LITERAL; its WEIGHT ([48], [49])."""

from waycircuits.fractions import ONE, lowest
from waycircuits.sides import reached_sides
from waycircuits.totals import pairs_with, total_by
from waycircuits.weights import pairs_of


def circuit_count(circuit):
    """How many MODELS the CIRCUIT has."""
    return total_by(reached_sides(circuit), pairs_with(circuit[0], ()))


def circuit_trues(circuit):
    """Of each NUMBER, from 0 to how many NAMES there are, how many MODELS have just so many names true.

    A true name weighs so much that the MODELS of each number have figures of their own in the total.
    """
    names = circuit[0]
    width = len(names) + 1
    total = total_by(reached_sides(circuit), {name: (1, 1 << width) for name in names})
    figures = (1 << width) - 1
    return tuple([(total >> (width * many)) & figures for many in range(len(names) + 1)])


def circuit_literals(circuit):
    """Of each LITERAL of NAMES, as they rise, the pair of it and of how many MODELS have it."""
    names = circuit[0]
    sides = reached_sides(circuit)
    literals = [(name, truth) for name in names for truth in (False, True)]
    return tuple([(literal, total_by(sides, pairs_with(names, (literal,)))) for literal in literals])


def weighed(circuit, weights, *, free=ONE):
    """The WEIGHTS of the MODELS, added, a name without WEIGHTS weighing free: a FRACTION."""
    names = circuit[0]
    pairs = {}
    under = 1
    for name, (no, yes) in zip(names, pairs_of(names, weights, free)):
        pairs[name] = (no[0] * yes[1], yes[0] * no[1])
        under = under * no[1] * yes[1]
    return lowest(total_by(reached_sides(circuit), pairs), under)

"""STRETCHES of FRACTIONS, and those that BOUNDS of NODES have to have in them ([50])."""

from waycircuits.fractions import ONE, less, times
from waycircuits.weights import weight_by


def stretch_over(fractions):
    """The STRETCH from the least to the most of the FRACTIONS, one or more."""
    least = most = fractions[0]
    for fraction in fractions:
        least = fraction if less(fraction, least) else least
        most = fraction if less(most, fraction) else most
    return (least, most)


def multiplied(stretches):
    """All these STRETCHES multiplied, that of ONE alone of none."""
    product = (ONE, ONE)
    for stretch in stretches:
        product = stretch_over([times(one, other) for one in product for other in stretch])
    return product


def has_in_it(stretch, other):
    """Whether the STRETCH has all of the other one in it."""
    return not less(other[0], stretch[0]) and not less(stretch[1], other[1])


def widened(stretch):
    """The least STRETCH between whole numbers that has this one in it."""
    (over, under), (most_over, most_under) = stretch
    return ((over // under, 1), (-(-most_over // most_under), 1))


def factors(side, bounds, pairs):
    """The STRETCHES that multiplied are the side's, a list: those of its NODES, of its LITERALS, of its free names.

    None where the BOUNDS of one of its NODES are; told is of each name the pair of what it weighs False, True.
    """
    numbers, literals, free = side
    found = [bounds[number] for number in numbers]
    if not all([stretch is not None for stretch in found]):
        return None
    weighing = [weight_by((pairs[name],), (truth,)) for name, truth in literals]
    return [*found, *[(weight, weight) for weight in weighing], *[stretch_over(pairs[name]) for name in free]]


def needed_stretch(sides, bounds, pairs):
    """The least STRETCH that has all the sides' in it; None where there is none."""
    made = [factors(side, bounds, pairs) for side in sides]
    found = [multiplied(stretches) for stretches in made if stretches is not None]
    if not found:
        return None
    return stretch_over([end for stretch in found for end in stretch])

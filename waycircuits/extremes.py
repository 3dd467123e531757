"""The heaviest and the lightest MODEL of a CIRCUIT, each with a paper ([51])."""

from waycircuits.errors import NoModel
from waycircuits.fractions import ONE, times
from waycircuits.nodes import reached
from waycircuits.sides import all_sides
from waycircuits.stretches import factors, multiplied, needed_stretch, widened
from waycircuits.weights import pairs_of

LEAST = 0
MOST = 1
TWO_ENDS = ((0, 0), (0, 1), (1, 0), (1, 1))


def heaviest(circuit, weights, *, free=ONE):
    """A HEAVIEST PAPER of the CIRCUIT; or NoModel."""
    return paper_at(circuit, weights, free, MOST)


def lightest(circuit, weights, *, free=ONE):
    """A LIGHTEST PAPER of the CIRCUIT; or NoModel."""
    return paper_at(circuit, weights, free, LEAST)


def paper_at(circuit, weights, free, end):
    """The paper of a MODEL at this end of the REACH; or NoModel."""
    names, nodes = circuit
    pairs = dict(zip(names, pairs_of(names, weights, free)))
    sides = all_sides(circuit)
    bounds = bounds_of(sides, [*reached(nodes), len(nodes)], pairs)
    reach = bounds[len(nodes)]
    if reach is None:
        raise NoModel(circuit)
    truths = truths_at(sides, bounds, pairs, end)
    row = tuple([truths[name] for name in names])
    return (reach[end], row, tuple([bounds[number] for number in range(len(nodes))]))


def bounds_of(sides, numbers, pairs):
    """BOUNDS that HOLD, by the numbers of NODES, and the REACH behind them: a dict.

    Of these numbers, of REACHED NODES, they are as narrow as can be: so each end of the REACH is a MODEL's.
    Others are between whole numbers, as their FRACTIONS could grow with each NODE.
    """
    exact = {number: True for number in numbers}
    bounds = {}
    for number in sides:
        stretch = needed_stretch(sides[number], bounds, pairs)
        if stretch is not None and number not in exact:
            stretch = widened(stretch)
        bounds[number] = stretch
    return bounds


def truths_at(sides, bounds, pairs, end):
    """The truths, a dict, of a MODEL at this end of the REACH, found from the CIRCUIT down to its LITERALS.

    What is wanted of a NODE is an end of its BOUNDS; of each that has names UNDER it only one of both is.
    """
    wanted = {len(sides) - 1: end}
    truths = {}
    for number in reversed(range(len(sides))):
        if number in wanted:
            take_side(sides[number], bounds, pairs, bounds[number][wanted[number]], wanted, truths)
    return truths


def take_side(sides, bounds, pairs, weight, wanted, truths):
    """Tell the truths, and the ends that are wanted, of the first side that has the weight as an end."""
    for side in sides:
        stretches = factors(side, bounds, pairs)
        if stretches is not None and weight in multiplied(stretches):
            ends = ends_for(stretches, weight)
            numbers, literals, free = side
            wanted.update(dict(zip(numbers, ends)))
            truths.update(dict(literals))
            behind = len(ends) - len(free)
            for name, stretch, end in zip(free, stretches[behind:], ends[behind:]):
                truths[name] = stretch[end] == pairs[name][1]
            return


def ends_for(stretches, weight):
    """Of each of these STRETCHES an end, a list, such that all of them multiplied are the weight."""
    ahead = [(ONE, ONE)]
    for stretch in stretches:
        ahead.append(multiplied([ahead[-1], stretch]))
    ends = []
    left = weight
    for at in reversed(range(len(stretches))):
        of_ahead, end = [pair for pair in TWO_ENDS if times(ahead[at][pair[0]], stretches[at][pair[1]]) == left][0]
        left = ahead[at][of_ahead]
        ends.append(end)
    return ends[::-1]

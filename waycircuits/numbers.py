"""The MODELS of a CIRCUIT by their numbers, and draws by digits ([55], [56])."""

from waycircuits.circuits import met_by
from waycircuits.counting import circuit_count
from waycircuits.errors import NoModel, NoNumber
from waycircuits.sides import reached_sides
from waycircuits.totals import pair_with, pairs_with, row_at, total_by


def model_at(circuit, number):
    """The MODEL that so many others are ahead of; or NoNumber."""
    sides = reached_sides(circuit)
    pairs = pairs_with(circuit[0], ())
    if not 0 <= number < total_by(sides, pairs):
        raise NoNumber(number)
    return row_at(sides, pairs, number)


def number_of(circuit, row):
    """How many MODELS are ahead of this ROW; None where it is no MODEL."""
    if not met_by(circuit, row):
        return None
    names = circuit[0]
    sides = reached_sides(circuit)
    pairs = pairs_with(names, ())
    number = 0
    for name, truth in zip(names, row):
        if truth:
            pairs[name] = pair_with(False)
            number += total_by(sides, pairs)
        pairs[name] = pair_with(truth)
    return number


def drawn(circuit, digits, *, base=10):
    """The MODEL that the digits draw, None where they have to be drawn anew; or NoNumber, NoModel."""
    number = 0
    bound = 1
    for digit in digits:
        if not 0 <= digit < base:
            raise NoNumber(digit)
        number = number * base + digit
        bound = bound * base
    count = circuit_count(circuit)
    if count == 0:
        raise NoModel(circuit)
    share = bound // count
    if share == 0 or number // share >= count:
        return None
    return model_at(circuit, number // share)

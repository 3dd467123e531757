"""What follows of a CIRCUIT: a MODEL against a LITERAL, the BACKBONE, two names that are tied, all TIES ([60])."""

from waycircuits.errors import NoModel
from waycircuits.literals import contrary
from waycircuits.naming import look_for_names
from waycircuits.nodes import twos
from waycircuits.sides import reached_sides
from waycircuits.totals import pairs_with, row_at, total_by


def against(circuit, literal):
    """A MODEL that hasn't the LITERAL, None where each MODEL HAS it; or NoName."""
    names = circuit[0]
    look_for_names(names, (literal[0],))
    return model_with(reached_sides(circuit), names, (contrary(literal),))


def backbone(circuit):
    """All LITERALS that each MODEL HAS, a rising tuple; or NoModel."""
    names = circuit[0]
    sides = reached_sides(circuit)
    look_for_models(circuit, sides)
    literals = [(name, truth) for name in names for truth in (False, True)]
    return tuple([literal for literal in literals if not some_have(sides, names, (contrary(literal),))])


def tied(circuit, one, other):
    """("alike",), ("unlike",), or ("free", a MODEL with like truths, one with unlike ones); or NoName, NoModel."""
    names = circuit[0]
    look_for_names(names, (one, other))
    sides = reached_sides(circuit)
    like = model_tied(sides, names, (one, other), True)
    unlike = model_tied(sides, names, (one, other), False)
    if like is None and unlike is None:
        raise NoModel(circuit)
    if unlike is None:
        return ("alike",)
    if like is None:
        return ("unlike",)
    return ("free", like, unlike)


def ties(circuit):
    """All TIES, a rising tuple of (one, other, truth): True of names ALIKE, False of UNLIKE ones; or NoModel."""
    names = circuit[0]
    sides = reached_sides(circuit)
    look_for_models(circuit, sides)
    return tuple([(*pair, truth) for pair in twos(names) for truth in (False, True)
                  if not any([some_have(sides, names, literals) for literals in ways_to_be(pair, not truth)])])


def look_for_models(circuit, sides):
    """Refuse a CIRCUIT without MODELS, of these sides."""
    if not some_have(sides, circuit[0], ()):
        raise NoModel(circuit)


def some_have(sides, names, literals):
    """Whether some MODEL HAS all these LITERALS, of unlike names."""
    return total_by(sides, pairs_with(names, literals)) > 0


def model_with(sides, names, literals):
    """The least MODEL that HAS all these LITERALS, of unlike names; None where there is none."""
    if not some_have(sides, names, literals):
        return None
    return row_at(sides, pairs_with(names, literals), 0)


def model_tied(sides, names, pair, alike):
    """A MODEL in which the two names have like truths, or unlike ones; None where there is none."""
    for literals in ways_to_be(pair, alike):
        if some_have(sides, names, literals):
            return model_with(sides, names, literals)
    return None


def ways_to_be(pair, alike):
    """The two ways in which two names have like truths, or unlike ones: of each the two LITERALS."""
    one, other = pair
    return [((one, truth), (other, truth == alike)) for truth in (False, True)]

"""WEIGHTS: whether any thing is such; the WEIGHT of a ROW, of a FORM's MODELS ([5], [16])."""

from waycircuits.fractions import NOUGHT, ONE, is_fraction, plus, times
from waycircuits.rows import models
from waycircuits.words import is_word, rises


def is_weights(thing):
    """Whether the thing is WEIGHTS: a rising tuple of triples (name, no, yes) of unlike names."""
    if not isinstance(thing, tuple) or not all([is_weighing(triple) for triple in thing]):
        return False
    return rises([triple[0] for triple in thing])


def is_weighing(thing):
    """Whether the thing is a triple of a WORD and two FRACTIONS."""
    if not isinstance(thing, tuple) or len(thing) != 3:
        return False
    name, no, yes = thing
    return is_word(name) and is_fraction(no) and is_fraction(yes)


def weight_of(names, row, weights, *, free=ONE):
    """The WEIGHT of the ROW of the NAMES, a name without WEIGHTS weighing free."""
    return weight_by(pairs_of(names, weights, free), row)


def weigh_by_rows(form, weights, *, free=ONE):
    """The WEIGHTS of the FORM's MODELS, added."""
    pairs = pairs_of(form[0], weights, free)
    total = NOUGHT
    for row in models(form):
        total = plus(total, weight_by(pairs, row))
    return total


def pairs_of(names, weights, free):
    """Of each of the NAMES, in order, the pair of what it weighs where it is false, where it is true."""
    told = {name: (no, yes) for name, no, yes in weights}
    return [told.get(name, (free, free)) for name in names]


def weight_by(pairs, row):
    """The product of what names of these pairs weigh by the truths of the ROW."""
    weight = ONE
    for (no, yes), truth in zip(pairs, row):
        weight = times(weight, yes if truth else no)
    return weight

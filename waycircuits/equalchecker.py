"""The checker of any thing as a TRAIL that shows that a CIRCUIT EQUALS a FORM ([52])."""

from waycircuits.counting import circuit_count
from waycircuits.errors import NoPaper
from waycircuits.literals import contrary
from waycircuits.refuting import refuted
from waycircuits.trailchecker import lets_trail


def lets_equal(form, circuit, thing):
    """True, where the thing is a TRAIL OF the FORM that shows that the CIRCUIT EQUALS it; or NoPaper(word, at).

    A DECOMPOSED CIRCUIT has a MODEL that doesn't MEET a CLAUSE just where its CONTRARIES leave the ROOT unrefuted.
    """
    names, clauses = form
    if names != circuit[0]:
        raise NoPaper("names", -1)
    for number, clause in enumerate(clauses):
        if not refuted(circuit, len(circuit[1]) - 1, [contrary(literal) for literal in clause]):
            raise NoPaper("clause", number)
    if lets_trail(form, thing) != circuit_count(circuit):
        raise NoPaper("count", -1)
    return True

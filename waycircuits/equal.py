"""Whether a CIRCUIT EQUALS a FORM: a TRAIL that shows it, or a ROW that is a MODEL of just one of both ([53])."""

from waycircuits.laying import Laid, laid_rows, walk_through
from waycircuits.literals import contrary
from waycircuits.putting import put
from waycircuits.sides import reached_sides
from waycircuits.tallying import shown_count
from waycircuits.totals import pair_with, pairs_with, row_at, total_by


def equal_or_row(form, circuit):
    """The pair ("equal", TRAIL), or ("row", ROW), of a FORM and a CIRCUIT of the same NAMES."""
    names, clauses = form
    sides = reached_sides(circuit)
    for clause in clauses:
        pairs = pairs_with(names, [contrary(literal) for literal in clause])
        if total_by(sides, pairs) > 0:
            return ("row", row_at(sides, pairs, 0))
    trail = laid_rows(clauses, None)
    if shown_count(names, clauses, trail[-1][1]) == total_by(sides, pairs_with(names, ())):
        return ("equal", tuple(trail))
    return ("row", row_missed(form, sides))


def row_missed(form, sides):
    """A MODEL of the FORM that is none of the CIRCUIT, whose MODELS are the FORM's, but not as many.

    Name by name it goes where the FORM has more MODELS than the CIRCUIT.
    """
    names, clauses = form
    pairs = pairs_with(names, ())
    laid = Laid()
    truths = []
    for at, name in enumerate(names):
        left = put(clauses, (name, False))
        pairs[name] = pair_with(False)
        truth = count_by(laid, names[at + 1:], left) == total_by(sides, pairs)
        if truth:
            left = put(clauses, (name, True))
            pairs[name] = pair_with(True)
        truths.append(truth)
        clauses = left
    return tuple(truths)


def count_by(laid, names, clauses):
    """The COUNT of the FORM of these, by the rows laid ahead and new ones."""
    walk_through(laid, clauses, None)
    return shown_count(names, clauses, laid.rows[laid.known[clauses]][1])

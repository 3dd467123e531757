"""LITERALS PUT into CLAUSES and into a FORM ([5], [12])."""

from waycircuits.literals import contrary
from waycircuits.naming import look_for_names


def put(clauses, literal):
    """The CLAUSES behind the LITERAL is PUT into these."""
    against = contrary(literal)
    left = [without(clause, against) for clause in clauses if literal not in clause]
    return tuple(sorted(set(left)))


def put_all(clauses, literals):
    """The CLAUSES behind all the LITERALS, of unlike names, are PUT, one by one."""
    left = clauses
    for literal in literals:
        left = put(left, literal)
    return left


def form_put(form, literal):
    """The FORM of the other NAMES, and the CLAUSES behind the LITERAL is PUT; or NoName."""
    names, clauses = form
    name = literal[0]
    look_for_names(names, (name,))
    return (tuple([other for other in names if other != name]), put(clauses, literal))


def without(clause, literal):
    """The CLAUSE without the LITERAL, which it need not have."""
    if literal not in clause:
        return clause
    return tuple([other for other in clause if other != literal])

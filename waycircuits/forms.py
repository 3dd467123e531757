"""CLAUSES and FORMS: whether any thing is one; NAMES OF CLAUSES; what a ROW MEETS ([4], [10], [11])."""

from waycircuits.literals import is_clause
from waycircuits.words import is_names, rises


def are_clauses(thing):
    """Whether the thing is CLAUSES: a rising tuple of CLAUSES."""
    return isinstance(thing, tuple) and all([is_clause(clause) for clause in thing]) and rises(thing)


def is_form(thing):
    """Whether the thing is a FORM: NAMES, and CLAUSES of some of these alone."""
    if not isinstance(thing, tuple) or len(thing) != 2:
        return False
    names, clauses = thing
    if not is_names(names) or not are_clauses(clauses):
        return False
    told = set(names)
    return all([name in told for name in names_in(clauses)])


def names_in(clauses):
    """The NAMES OF the CLAUSES: those that stand in one of them, rising."""
    return tuple(sorted({name for clause in clauses for name, _ in clause}))


def meets(names, row, clause):
    """Whether the ROW of the NAMES MEETS the CLAUSE, of whatever names."""
    return has_one(dict(zip(names, row)), clause)


def met(form, row):
    """Whether the ROW of the FORM's NAMES is a MODEL of it."""
    names, clauses = form
    truths = dict(zip(names, row))
    for clause in clauses:
        if not has_one(truths, clause):
            return False
    return True


def has_one(truths, literals):
    """Whether names of these truths, a dict, HAVE one of the LITERALS; a name that isn't there has neither truth."""
    for name, truth in literals:
        if name in truths and truths[name] == truth:
            return True
    return False

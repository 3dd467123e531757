"""LITERALS and CLAUSES: whether any thing is one, and the CONTRARY ([4], [10])."""

from waycircuits.words import is_word, rises


def is_literal(thing):
    """Whether the thing is a LITERAL: a pair of a WORD and a truth."""
    if not isinstance(thing, tuple) or len(thing) != 2:
        return False
    return is_word(thing[0]) and isinstance(thing[1], bool)


def is_clause(thing):
    """Whether the thing is a CLAUSE: a rising tuple of LITERALS of unlike names."""
    if not isinstance(thing, tuple) or not all([is_literal(literal) for literal in thing]):
        return False
    return rises([name for name, _ in thing])


def contrary(literal):
    """The LITERAL of the same name and the other truth."""
    name, truth = literal
    return (name, not truth)

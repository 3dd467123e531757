"""The checker of any thing as a PROJECTED TRAIL OF a FORM by shown names ([33])."""

from waycircuits.errors import NoPaper
from waycircuits.forms import names_in
from waycircuits.literals import is_clause
from waycircuits.naming import look_for_names
from waycircuits.tallying import row_count, shown_among
from waycircuits.trailchecker import count_at_end, is_rule, lets_trail, look_ahead, look_at_shapes, rule_holds


def lets_projected(form, shown, thing):
    """How many SHOWN ROWS the thing SHOWS, a PROJECTED TRAIL OF the FORM; or NoName, NoPaper(word, at)."""
    look_for_names(form[0], shown)
    look_at_shapes(thing, is_projected_rule)
    told = {name: True for name in shown}
    for number in range(len(thing)):
        look_at_projected_row(thing, number, told)
    return count_at_end(form, thing, shown)


def is_projected_rule(thing):
    """Whether the thing is a rule of a PROJECTED TRAIL by kind."""
    if not isinstance(thing, tuple) or len(thing) != 2:
        return is_rule(thing)
    kind, rest = thing
    if kind == "model":
        return is_clause(rest)
    if kind == "never":
        return isinstance(rest, tuple)
    return is_rule(thing)


def look_at_projected_row(rows, number, shown):
    """Refuse a row as that of a TRAIL, and where hidden names are taken for shown ones, or the other way about."""
    clauses, count, rule = rows[number]
    look_ahead(rule, number)
    if not keeps_to_shown(clauses, rule, shown):
        raise NoPaper("shown", number)
    if not projected_rule_holds(clauses, rule, rows):
        raise NoPaper("rule", number)
    if count != row_count(clauses, rule, rows, shown):
        raise NoPaper("count", number)


def keeps_to_shown(clauses, rule, shown):
    """Whether a "split" is of a shown name, a "model" and a "never" of clauses without one."""
    kind = rule[0]
    if kind == "split":
        return rule[1] in shown
    if kind == "model" or kind == "never":
        return not shown_among(names_in(clauses), shown)
    return True


def projected_rule_holds(clauses, rule, rows):
    """Whether it is so of the clauses what the rule tells, but for the count."""
    kind = rule[0]
    if kind == "model":
        return all([any([literal in clause for literal in rule[1]]) for clause in clauses])
    if kind == "never":
        return shows_nought(clauses, rule[1])
    return rule_holds(clauses, rule, rows)


def shows_nought(clauses, thing):
    """Whether the thing is a TRAIL of these clauses that SHOWS 0."""
    try:
        return lets_trail((names_in(clauses), clauses), thing) == 0
    except NoPaper:
        return False

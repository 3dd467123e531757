"""The checker of any thing as a TRAIL OF a FORM ([25])."""

from waycircuits.errors import NoPaper
from waycircuits.forms import are_clauses, names_in
from waycircuits.grouping import groups
from waycircuits.literals import is_literal
from waycircuits.putting import put
from waycircuits.tallying import row_count, shown_count
from waycircuits.words import is_number, is_word


def lets_trail(form, thing):
    """The count that the thing SHOWS, a TRAIL OF the FORM; or NoPaper(word, at)."""
    look_at_shapes(thing, is_rule)
    for number in range(len(thing)):
        look_at_row(thing, number)
    return count_at_end(form, thing, form[0])


def look_at_shapes(thing, fits):
    """Refuse a thing that is no tuple of rows by kind, one or more; fits tells whether any thing is a rule by kind."""
    if not isinstance(thing, tuple) or not thing:
        raise NoPaper("shape", -1)
    for number, row in enumerate(thing):
        if not is_row(row, fits):
            raise NoPaper("shape", number)


def is_row(thing, fits):
    """Whether the thing is a triple of CLAUSES, a NUMBER from 0 on, and a rule by kind."""
    if not isinstance(thing, tuple) or len(thing) != 3:
        return False
    clauses, count, rule = thing
    return are_clauses(clauses) and is_number(count) and count >= 0 and fits(rule)


def is_rule(thing):
    """Whether the thing is a rule by kind."""
    if not isinstance(thing, tuple) or not thing:
        return False
    kind, *rest = thing
    if kind == "void" or kind == "free":
        return not rest
    if kind == "unit":
        return len(rest) == 2 and is_literal(rest[0]) and is_number(rest[1])
    if kind == "parts":
        return len(rest) == 1 and are_some(rest[0])
    return kind == "split" and len(rest) == 3 and is_word(rest[0]) and is_number(rest[1]) and is_number(rest[2])


def are_some(thing):
    """Whether the thing is a tuple of two NUMBERS or more."""
    return isinstance(thing, tuple) and len(thing) >= 2 and all([is_number(number) for number in thing])


def look_at_row(rows, number):
    """Refuse a row whose rule leads elsewhere, or tells what isn't so, or whose count is another one."""
    clauses, count, rule = rows[number]
    look_ahead(rule, number)
    if not rule_holds(clauses, rule, rows):
        raise NoPaper("rule", number)
    if count != row_count(clauses, rule, rows):
        raise NoPaper("count", number)


def look_ahead(rule, number):
    """Refuse the rule of this row where a number in it is none of a row ahead."""
    if not all([0 <= needed < number for needed in needed_by(rule)]):
        raise NoPaper("ahead", number)


def needed_by(rule):
    """The numbers of rows in a rule."""
    kind = rule[0]
    if kind == "unit" or kind == "split":
        return rule[2:]
    if kind == "parts":
        return rule[1]
    return ()


def rule_holds(clauses, rule, rows):
    """Whether it is so of the clauses what the rule tells, but for the count."""
    kind = rule[0]
    behind = tuple([rows[number][0] for number in needed_by(rule)])
    if kind == "void":
        return () in clauses
    if kind == "free":
        return not clauses
    if kind == "unit":
        return (rule[1],) in clauses and behind == (put(clauses, rule[1]),)
    if kind == "parts":
        return behind == groups(clauses)
    if rule[1] not in names_in(clauses):
        return False
    return behind == (put(clauses, (rule[1], False)), put(clauses, (rule[1], True)))


def count_at_end(form, rows, shown):
    """The last row's count, times 2 for each shown name in none of its clauses, which have to be the FORM's."""
    clauses, count, _ = rows[-1]
    if clauses != form[1]:
        raise NoPaper("form", -1)
    return shown_count(shown, clauses, count)

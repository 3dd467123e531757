"""The count of a row of a TRAIL, and what a TRAIL SHOWS ([6], [32])."""

from waycircuits.forms import names_in


def row_count(clauses, rule, rows, shown=None):
    """The count that a row of these clauses has by its rule; rows are those ahead of it.

    Names that are LOST double where they are shown, a dict's keys; None shows all.
    What the rule tells of the clauses is taken to be so.
    """
    kind = rule[0]
    if kind == "void" or kind == "never":
        return 0
    if kind == "free" or kind == "model":
        return 1
    if kind == "unit":
        return count_behind(clauses, rule[1][0], rows[rule[2]], shown)
    if kind == "parts":
        return product_of([rows[number][1] for number in rule[1]])
    low = count_behind(clauses, rule[1], rows[rule[2]], shown)
    return low + count_behind(clauses, rule[1], rows[rule[3]], shown)


def count_behind(clauses, name, row, shown):
    """The count of the row behind the name is PUT, times 2 for each name LOST that is shown."""
    return row[1] << len(shown_among(lost_names(clauses, name, row[0]), shown))


def lost_names(clauses, name, left):
    """The names LOST by a LITERAL of the name in clauses, to those left: a list."""
    kept = set(names_in(left))
    return [other for other in names_in(clauses) if other != name and other not in kept]


def shown_among(names, shown):
    """Those of the names that are shown, a list; None shows all."""
    return [name for name in names if shown is None or name in shown]


def product_of(numbers):
    """The product of the numbers, 1 of none."""
    total = 1
    for number in numbers:
        total = total * number
    return total


def shown_count(names, clauses, count):
    """The count of the clauses, times 2 for each of the names that stands in none of them."""
    counted_in = set(names_in(clauses))
    return count << len([name for name in names if name not in counted_in])

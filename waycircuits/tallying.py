"""The count of a row of a TRAIL, and what a TRAIL SHOWS ([6])."""

from waycircuits.forms import names_in


def row_count(clauses, rule, rows):
    """The count that a row of these clauses has by its rule; rows are those ahead of it.

    What the rule tells of the clauses is taken to be so.
    """
    kind = rule[0]
    if kind == "void":
        return 0
    if kind == "free":
        return 1
    if kind == "unit":
        return count_behind(clauses, rule[1][0], rows[rule[2]])
    if kind == "parts":
        return product_of([rows[number][1] for number in rule[1]])
    low = count_behind(clauses, rule[1], rows[rule[2]])
    return low + count_behind(clauses, rule[1], rows[rule[3]])


def count_behind(clauses, name, row):
    """The count of the row behind the name is PUT, times 2 for each name LOST."""
    return row[1] << len(lost_names(clauses, name, row[0]))


def lost_names(clauses, name, left):
    """The names LOST by a LITERAL of the name in clauses, to those left: a list."""
    kept = set(names_in(left))
    return [other for other in names_in(clauses) if other != name and other not in kept]


def product_of(numbers):
    """The product of the numbers, 1 of none."""
    total = 1
    for number in numbers:
        total = total * number
    return total


def shown_count(form, count):
    """The count of the FORM's clauses, times 2 for each of its names that stands in none of them."""
    names, clauses = form
    return count << (len(names) - len(names_in(clauses)))

"""Two FORMS: TOGETHER, and either ([21])."""

from waycircuits.laying import laid_rows
from waycircuits.tallying import shown_count


def together(one, other):
    """The FORM of the NAMES of both and the CLAUSES of both."""
    return (joined(one[0], other[0]), joined(one[1], other[1]))


def either(one, other):
    """How many ROWS of the NAMES of both have, of the one's NAMES or of the other's, a MODEL of it.

    Both may have too many names for going through all ROWS, so THE WALK counts, without a bound.
    """
    names = joined(one[0], other[0])
    first, second = count_among(names, one[1]), count_among(names, other[1])
    return first + second - count_among(names, joined(one[1], other[1]))


def joined(one, other):
    """What stands in one of both rising tuples, rising, each once."""
    return tuple(sorted(set(one) | set(other)))


def count_among(names, clauses):
    """How many ROWS of the NAMES MEET all the CLAUSES."""
    return shown_count(names, clauses, laid_rows(clauses, None)[-1][1])

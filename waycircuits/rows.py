"""All ROWS of NAMES, and what is told of a FORM by going through them ([15])."""

from waycircuits.forms import met


def all_rows(names):
    """All ROWS of the NAMES, a rising tuple."""
    rows = [()]
    for _ in names:
        rows = [(*row, truth) for row in rows for truth in (False, True)]
    return tuple(rows)


def models(form, *, having=()):
    """The MODELS of the FORM that HAVE all LITERALS of having, a rising tuple."""
    names, clauses = form
    # A ROW HAS a LITERAL just where it MEETS the CLAUSE of this alone.
    asked = (names, (*[(literal,) for literal in having], *clauses))
    return tuple([row for row in all_rows(names) if met(asked, row)])


def count_by_rows(form, *, having=()):
    """How many MODELS the FORM has that HAVE all LITERALS of having."""
    return len(models(form, having=having))


def count_by_trues(form, *, having=()):
    """Of each NUMBER, from 0 to how many NAMES there are, how many such MODELS have just so many truths True."""
    counts = [0] * (len(form[0]) + 1)
    for row in models(form, having=having):
        counts[row.count(True)] += 1
    return tuple(counts)

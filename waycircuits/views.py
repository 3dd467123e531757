"""What stands UNTIL a MOMENT: the IDLE PAGES, the FORM, its WEIGHTS, the SHOWN names ([73])."""

from waycircuits.standing import standing_behind


def idle(book, until=None):
    """The IDLE PAGES, as they STAND: a list of pairs (page, word)."""
    return standing_behind(book, until).idling


def form_at(book, until=None):
    """The FORM that stands."""
    standing = standing_behind(book, until)
    return (tuple(sorted(standing.shown)), tuple(sorted(standing.clauses)))


def weights_at(book, until=None):
    """The WEIGHTS told last, of names that have some alone."""
    weights = standing_behind(book, until).weights
    return tuple([(name, *weights[name]) for name in sorted(weights)])


def shown_at(book, until=None):
    """The SHOWN names."""
    shown = standing_behind(book, until).shown
    return tuple([name for name in sorted(shown) if shown[name]])

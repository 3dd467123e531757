"""What stands behind the PAGES of a BOOK, done one by one, and which of them are IDLE ([72])."""

from waycircuits.books import up_to
from waycircuits.forms import names_in


class Standing:
    """Of each name that stands whether it is shown; the clauses; of names with a weight the pair of it; IDLE pairs."""

    def __init__(self):
        self.shown = {}
        self.clauses = {}
        self.weights = {}
        self.idling = []


def standing_behind(book, until):
    """What stands behind the PAGES of the BOOK UNTIL the MOMENT, or None, as they STAND."""
    standing = Standing()
    for page in up_to(book, until):
        word = word_of_idle(standing, page)
        if word is None:
            do_page(standing, page)
        else:
            standing.idling.append((page, word))
    return standing


def word_of_idle(standing, page):
    """The word of a PAGE that can't be done; None where it can."""
    _, _, kind, what, *pair = page
    if (kind == "name" and what in standing.shown) or (kind == "clause" and what in standing.clauses):
        return "there"
    if kind != "name" and not all([name in standing.shown for name in names_of(kind, what)]):
        return "name"
    if kind == "strike" and what not in standing.clauses:
        return "none"
    same = (
        (kind == "weight" and standing.weights.get(what) == tuple(pair))
        or (kind == "show" and standing.shown[what])
        or (kind == "hide" and not standing.shown[what]))
    return "same" if same else None


def names_of(kind, what):
    """The names of a PAGE of this kind, of what it tells first."""
    return names_in((what,)) if kind == "clause" or kind == "strike" else (what,)


def do_page(standing, page):
    """Do a PAGE that can be done."""
    _, _, kind, what, *pair = page
    if kind == "clause":
        standing.clauses[what] = True
    elif kind == "strike":
        standing.clauses.pop(what)
    elif kind == "weight":
        standing.weights[what] = tuple(pair)
    else:
        standing.shown[what] = kind != "hide"

"""BOOKS: whether any thing is one; PAGES in order, two BOOKS as one, a BOOK UNTIL a MOMENT ([70], [71])."""

from waycircuits.pages import is_page, place_of
from waycircuits.words import rises


def is_book(thing):
    """Whether the thing is a BOOK: a tuple of unlike PAGES that STAND as told."""
    if not isinstance(thing, tuple) or not all([is_page(page) for page in thing]):
        return False
    return rises([place_of(page) for page in thing])


def in_order(pages):
    """The BOOK of these PAGES, a list or a tuple, in any order, some perhaps several times."""
    found = {place_of(page): page for page in pages}
    return tuple([found[place] for place in sorted(found)])


def joined(one, other):
    """The BOOK of each PAGE that one of the two BOOKS has."""
    return in_order((*one, *other))


def up_to(book, until=None):
    """The BOOK UNTIL the MOMENT: its PAGES of MOMENTS no later; of None all."""
    return tuple([page for page in book if until is None or page[:2] <= until])

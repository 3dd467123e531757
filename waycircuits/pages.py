"""MOMENTS and PAGES: whether any thing is one, and where PAGES STAND ([70])."""

from waycircuits.literals import is_clause
from waycircuits.weights import is_weighing
from waycircuits.words import is_number, is_word

KINDS = ("name", "clause", "strike", "weight", "show", "hide")
LAST_DAY = 99999
LAST_NUMBER = 999


def is_moment(thing):
    """Whether the thing is a MOMENT: a pair of a day and a number."""
    if not isinstance(thing, tuple) or len(thing) != 2:
        return False
    day, number = thing
    if not is_number(day) or not is_number(number):
        return False
    return 0 <= day <= LAST_DAY and 0 <= number <= LAST_NUMBER


def is_page(thing):
    """Whether the thing is a PAGE by kind."""
    if not isinstance(thing, tuple) or len(thing) < 4 or not is_moment(thing[:2]):
        return False
    kind, *what = thing[2:]
    if kind == "weight":
        return is_weighing(tuple(what))
    if len(what) != 1:
        return False
    if kind == "clause" or kind == "strike":
        return is_clause(what[0])
    return (kind == "name" or kind == "show" or kind == "hide") and is_word(what[0])


def place_of(page):
    """What PAGES STAND by: places rise as PAGES STAND."""
    day, number, kind, *what = page
    return (day, number, KINDS.index(kind), *what)

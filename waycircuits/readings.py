"""Lines read as a PAGE, as a BOOK, as a FORM ([77])."""

from waycircuits.books import in_order
from waycircuits.errors import NoText
from waycircuits.forms import names_in
from waycircuits.pages import KINDS, LAST_DAY, LAST_NUMBER
from waycircuits.signs import clause_in, fraction_in, number_in
from waycircuits.words import is_word

START = ("day", "number", "kind")
BEHIND = {
    "name": ("word",), "clause": ("clause",), "strike": ("clause",), "weight": ("word", "fraction", "fraction"),
    "show": ("word",), "hide": ("word",)}


def read_page(text):
    """The PAGE that the text writes; or NoText(0, word)."""
    return page_at(text, 0)


def read_book(lines):
    """The BOOK of the PAGES that the lines write, in any order, some perhaps twice; or NoText(row, word)."""
    return in_order([page_at(line, row) for row, line in enumerate(lines)])


def read_form(lines):
    """The FORM that the lines write, those of CLAUSES in any order, some perhaps twice; or NoText(row, word)."""
    if not lines:
        raise NoText(0, 0)
    names = names_at(lines[0])
    clauses = [clause_at(line, row, names) for row, line in enumerate(lines) if row > 0]
    return (names, tuple(sorted(set(clauses))))


def page_at(line, row):
    """The PAGE that the line of this row writes; or NoText."""
    words = line.split(" ")
    page = things_at(words, START, row, 0)
    page.extend(things_at(words, BEHIND[page[-1]], row, len(page)))
    look_at_end(words, len(page), row)
    return tuple(page)


def things_at(words, kinds, row, ahead):
    """What the words are read as, a list, one by one of these kinds, behind so many ahead; or NoText."""
    found = []
    for at, kind in enumerate(kinds, start=ahead):
        thing = thing_in(words[at], kind) if at < len(words) else None
        if thing is None:
            raise NoText(row, at)
        found.append(thing)
    return found


def thing_in(word, kind):
    """What the word is read as, of this kind; None where it can't stand."""
    if kind == "word":
        return word if is_word(word) else None
    if kind == "kind":
        return word if word in KINDS else None
    if kind == "clause":
        return clause_in(word)
    if kind == "fraction":
        return fraction_in(word)
    number = number_in(word)
    if number is None:
        return None
    return number if number <= (LAST_DAY if kind == "day" else LAST_NUMBER) else None


def look_at_end(words, many, row):
    """Refuse a line of more words than so many."""
    if len(words) > many:
        raise NoText(row, many)


def names_at(line):
    """The NAMES that the first line of a FORM writes; or NoText."""
    words = line.split(" ")
    for at, word in enumerate(words):
        fits = is_word(word) if at > 0 else word == "names"
        if not fits or (at > 1 and not words[at - 1] < word):
            raise NoText(0, at)
    return tuple(words[1:])


def clause_at(line, row, names):
    """The CLAUSE of some of the names that the line of this row writes; or NoText."""
    words = line.split(" ")
    if words[0] != "clause":
        raise NoText(row, 0)
    clause = things_at(words, ("clause",), row, 1)[0]
    if not all([name in names for name in names_in((clause,))]):
        raise NoText(row, 1)
    look_at_end(words, 2, row)
    return clause

"""The rows of a desk: of each its word, and the thing behind it ([82])."""

from waycircuits.errors import NoRow, NoText
from waycircuits.readings import read_page
from waycircuits.signs import moment_in, number_in

BEHIND = {
    "tell": "page", "strike": "page", "all": "pages", "keep": "pages", "back": "nothing", "deeds": "nothing",
    "book": "nothing", "elder": "number", "idle": "moment", "form": "moment", "weights": "moment", "shown": "moment",
    "count": "moment", "ways": "moment", "weight": "moment", "asked": "nothing"}


def read_row(row):
    """The pair of the word of the row and of the thing behind it, None of nothing; or NoRow(row)."""
    word, blank, rest = row.partition(" ")
    kind = BEHIND.get(word, "")
    if not blank and (kind == "nothing" or kind == "moment"):
        return (word, None)
    thing = thing_behind(kind, rest) if blank else None
    if thing is None:
        raise NoRow(row)
    return (word, thing)


def thing_behind(kind, text):
    """What the text is read as, of this kind; None where it can't be read so."""
    if kind == "page":
        return page_in(text)
    if kind == "pages":
        pages = [page_in(line) for line in text.split(" / ")]
        return pages if all([page is not None for page in pages]) else None
    if kind == "number":
        return number_in(text)
    return moment_in(text) if kind == "moment" else None


def page_in(text):
    """The PAGE that the text writes; None where it writes none."""
    try:
        return read_page(text)
    except NoText:
        return None

"""The desk: rows of text are asked of a SESSION, and answered by texts ([82], [83])."""

from waycircuits.asks import count_at, shown_count_at, weight_at
from waycircuits.deskrows import read_row
from waycircuits.session import Session
from waycircuits.texts import book_lines, form_lines, fraction_word, page_line, weight_words
from waycircuits.views import form_at, idle, shown_at, weights_at


class Desk:
    """Has a SESSION, and answers rows."""

    def __init__(self):
        self.session = Session()

    def say(self, row):
        """The answer to the row; or NoRow(row), or as the SESSION and the functions of the BOOK refuse."""
        word, thing = read_row(row)
        if word in DEEDS:
            answer = DEEDS[word]
            return answer(self.session, thing)
        view = VIEWS[word]
        return view(self.session.book(), thing)


def say_tell(session, page):
    """Whether the PAGE is new."""
    return "new" if session.tell(page) else "there"


def say_strike(session, page):
    """That the PAGE is struck out."""
    session.strike(page)
    return "ok"


def say_all(session, pages):
    """How many of the PAGES were new."""
    return str(session.tell_all(pages))


def say_keep(session, pages):
    """How many of the PAGES were new; those ahead of one that is refused stay."""
    return str(session.tell_all(pages, keep=True))


def say_back(session, _):
    """The word of the deed taken back, and its PAGE, or how many they were."""
    word, what = session.back()
    if word == "tell" or word == "strike":
        return f"{word} {page_line(what)}"
    return f"{word} {len(what)}"


def say_deeds(session, _):
    """How many deeds there are."""
    return str(len(session))


def say_elder(session, k):
    """The lines of the BOOK behind the first k deeds."""
    return parted(book_lines(session.elder(k)))


def say_asked(session, _):
    """The count, how many rows were laid afresh, how many WALKS ended at KNOWN ones."""
    return " ".join([str(number) for number in session.asked()])


def say_book(book, _):
    """The lines of the BOOK."""
    return parted(book_lines(book))


def say_idle(book, until):
    """Of each IDLE PAGE its word, and its line."""
    return parted([f"{word} {page_line(page)}" for page, word in idle(book, until)])


def say_form(book, until):
    """The lines of the FORM that stands."""
    return parted(form_lines(form_at(book, until)))


def say_weights(book, until):
    """Of each name that has a weight its words."""
    return parted([" ".join(weight_words(triple)) for triple in weights_at(book, until)])


def say_shown(book, until):
    """The SHOWN names."""
    return ",".join(shown_at(book, until) or ("-",))


def say_count(book, until):
    """The COUNT of the FORM that stands."""
    return str(count_at(book, until))


def say_ways(book, until):
    """How many ROWS of the SHOWN names are completed."""
    return str(shown_count_at(book, until))


def say_weight(book, until):
    """The WEIGHT of all MODELS, added."""
    return fraction_word(weight_at(book, until))


def parted(lines):
    """The lines as one text, - of none."""
    return " / ".join(lines or ["-"])


DEEDS = {
    "tell": say_tell, "strike": say_strike, "all": say_all, "keep": say_keep, "back": say_back, "deeds": say_deeds,
    "elder": say_elder, "asked": say_asked}
VIEWS = {
    "book": say_book, "idle": say_idle, "form": say_form, "weights": say_weights, "shown": say_shown,
    "count": say_count, "ways": say_ways, "weight": say_weight}

"""The SESSION: a BOOK that deeds make, and a COUNTER of its own ([78] to [81])."""

from waycircuits.books import joined
from waycircuits.counter import Counter
from waycircuits.errors import NoPage, NoStep
from waycircuits.pages import is_page
from waycircuits.texts import book_lines
from waycircuits.views import form_at
from waycircuits.walking import STEPS

MOST_PAGES = 60


class Session:
    """Keeps its deeds, each a triple: its word, what was told, struck out or new by it, the BOOK behind it."""

    def __init__(self):
        self.deeds = []
        self.counter = Counter()

    def tell(self, thing):
        """True, where the thing is a new PAGE, False where it is there; or NoPage."""
        ahead = self.book()
        book = book_with(ahead, thing)
        if book == ahead:
            return False
        self.deeds.append(("tell", thing, book))
        return True

    def strike(self, thing):
        """Strike the thing out; or NoPage("none")."""
        ahead = self.book()
        if not is_page(thing) or thing not in ahead:
            raise NoPage("none")
        self.deeds.append(("strike", thing, tuple([page for page in ahead if page != thing])))

    def take_in(self, other):
        """Take in the PAGES of a SESSION, and tell how many are new; or NoPage("many")."""
        return self.add_all("take", joined(self.book(), other.book()))

    def tell_all(self, things, *, keep=False):
        """Tell the things one by one, as one deed, and tell how many were new; or NoPage.

        Where one is refused all is as it was ahead, but those told ahead of it stay where keep is True.
        """
        book = self.book()
        for thing in things:
            try:
                book = book_with(book, thing)
            except NoPage:
                if keep:
                    self.add_all("all", book)
                raise
        return self.add_all("all", book)

    def add_all(self, word, book):
        """Do a deed that leads to this BOOK, where it has PAGES that aren't there, and tell how many; or NoPage."""
        ahead = self.book()
        fresh = tuple([page for page in book if page not in ahead])
        if len(book) > MOST_PAGES:
            raise NoPage("many")
        if fresh:
            self.deeds.append((word, fresh, book))
        return len(fresh)

    def back(self):
        """Take the last deed back; tell the pair of its word and of what it told, struck out, brought; or NoPage."""
        if not self.deeds:
            raise NoPage("back")
        word, what, _ = self.deeds.pop()
        return (word, what)

    def book(self):
        """The BOOK."""
        return book_behind(self.deeds)

    def elder(self, k):
        """The BOOK behind the first k deeds; or NoStep(k)."""
        if not 0 <= k <= len(self.deeds):
            raise NoStep(k)
        return book_behind(self.deeds[:k])

    def asked(self, *, most=STEPS):
        """What the COUNTER tells of the FORM that stands: (count, fresh, known); or NoMore."""
        return self.counter.ask(form_at(self.book()), most=most)

    def __len__(self):
        return len(self.deeds)

    def __str__(self):
        return " / ".join(book_lines(book_behind(self.deeds)) or ["-"])

    def __eq__(self, other):
        return isinstance(other, Session) and book_behind(self.deeds) == book_behind(other.deeds)

    def __ne__(self, other):
        return not self == other


def book_behind(deeds):
    """The BOOK behind these deeds, () behind none."""
    return deeds[-1][2] if deeds else ()


def book_with(book, thing):
    """The BOOK that has the thing, too; or NoPage."""
    if not is_page(thing):
        raise NoPage("kind")
    if thing in book:
        return book
    if len(book) >= MOST_PAGES:
        raise NoPage("many")
    return joined(book, (thing,))

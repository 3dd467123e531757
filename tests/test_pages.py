"""Points 70, 71: MOMENTS, PAGES, BOOKS; PAGES in order, two BOOKS as one, a BOOK UNTIL a MOMENT."""

import copy
import unittest

from tests.book_samples import KINDS, any_pages, moments, plain_book, some_books
from tests.samples import Mixer, deep, strange_things
from waycircuits.books import in_order, is_book, joined, up_to
from waycircuits.pages import is_moment, is_page

A, NOT_A, B = ("a", True), ("a", False), ("b", True)
PAGES = (
    (4, 0, "name", "a"), (4, 0, "clause", (NOT_A, B)), (4, 0, "clause", ()), (4, 0, "strike", (A,)),
    (5, 1, "weight", "a", (1, 2), (-3, 4)), (6, 0, "show", "b"), (6, 0, "hide", "b"))


class Moments(unittest.TestCase):
    def test_bounds(self):
        for day, number in ((0, 0), (99999, 999), (0, 999), (99999, 0), (17, 4)):
            self.assertIs(is_moment((day, number)), True)
        for day, number in ((-1, 0), (0, -1), (100000, 0), (0, 1000), (100000, 1000), (-1, -1), (10 ** 59, 0)):
            self.assertIs(is_moment((day, number)), False)

    def test_wrong_ones(self):
        for thing in ((True, 0), (0, True), (False, False), (0,), (0, 0, 0), [0, 0], ("0", "0"), (0, None), (0, (0,)), (0.0, 0)):
            self.assertIs(is_moment(thing), False)

    def test_strange_things(self):
        for thing in strange_things():
            self.assertIs(is_moment(thing), False)
            self.assertIs(is_moment((0, thing)), isinstance(thing, int) and not isinstance(thing, bool) and thing in (0, 1))

    def test_by_name(self):
        self.assertIs(is_moment(thing=(1, 2)), True)


class Pages(unittest.TestCase):
    def test_each_kind(self):
        for page in PAGES:
            self.assertIs(is_page(page), True)
            self.assertIs(is_page(thing=list(page)), False)
            self.assertIs(is_page(page[:-1]), False)
            self.assertIs(is_page((*page, page[-1])), False)
            self.assertIs(is_page((99999, 999, *page[2:])), True)
            for day, number in ((100000, 0), (0, 1000), (-1, 0), (0, -1), (True, 0), (0, False), ("4", 0), (None, 0)):
                self.assertIs(is_page((day, number, *page[2:])), False)

    def test_what_is_told_of_each_kind(self):
        words = ("a", "abcdefgh")
        wrong_words = ("", "A", "abcdefghi", "a b", None, 1, True, ("a",), ["a"], A)
        clauses = ((), (A,), (NOT_A,), (A, B), (NOT_A, B))
        wrong_clauses = ((B, A), (A, A), (NOT_A, A), A, ("a",), [A], ([A],), (("a", 1),), None, "a", ((),))
        for kind in KINDS:
            right, wrong = (clauses, wrong_clauses) if kind in ("clause", "strike") else (words, wrong_words)
            more = ((1, 1), (0, 1)) if kind == "weight" else ()
            for what in right:
                self.assertIs(is_page((0, 0, kind, what, *more)), True)
            for what in wrong + ((words[0],) if right is clauses else (clauses[1], ())):
                self.assertIs(is_page((0, 0, kind, what, *more)), False)

    def test_weights(self):
        for fraction in ((2, 4), (1, 0), (1, -1), (0, 2), (1.0, 1), (True, 1), (1, True), [1, 1], (1,), (1, 1, 1), 1, None):
            self.assertIs(is_page((0, 0, "weight", "a", fraction, (1, 1))), False)
            self.assertIs(is_page((0, 0, "weight", "a", (1, 1), fraction)), False)
        for fraction in ((0, 1), (-3, 4), (10 ** 59, 1), (1, 10 ** 59)):
            self.assertIs(is_page((0, 0, "weight", "a", fraction, fraction)), True)

    def test_wrong_kinds(self):
        for kind in ("Name", "", "names", "weights", None, 0, 1, True, ("name",), ["name"], "name "):
            self.assertIs(is_page((0, 0, kind, "a")), False)
            self.assertIs(is_page((0, 0, kind, (A,))), False)
            self.assertIs(is_page((0, 0, kind, "a", (1, 1), (1, 1))), False)

    def test_strange_things(self):
        for thing in strange_things():
            self.assertIs(is_page(thing), False)
            for kind in KINDS:
                self.assertIs(is_page((0, 0, kind, thing)), False)
            self.assertIs(is_page((thing, 0, "name", "a")), type(thing) is int and 0 <= thing <= 99999)
            self.assertIs(is_page((0, 0, thing, "a")), False)
        self.assertIs(is_page(deep(29, (0, 0))), False)


class Books(unittest.TestCase):
    def test_those_that_stand(self):
        self.assertIs(is_book(()), True)
        self.assertIs(is_book(thing=PAGES[:1]), True)
        self.assertIs(is_book((PAGES[0], PAGES[2], PAGES[1], PAGES[3], *PAGES[4:])), True)
        for book in some_books():
            self.assertIs(is_book(book), True)

    def test_those_that_dont(self):
        for book in some_books():
            mixer = Mixer(len(book))
            if len(book) > 1:
                at = mixer.below(len(book) - 1)
                self.assertIs(is_book((*book[:at], book[at + 1], book[at], *book[at + 2:])), False)
                self.assertIs(is_book((*book[:at], book[at], *book[at:])), False)
                self.assertIs(is_book(list(book)), False)
                self.assertIs(is_book((*book, None)), False)
                self.assertIs(is_book((*book, list(book[-1]))), False)

    def test_order_of_one_moment(self):
        """PAGES of one MOMENT stand by kind, then as Python sorts what is left."""
        rising = [
            (1, 0, "hide", "z"), (1, 1, "name", "a"), (1, 1, "name", "b"), (1, 1, "clause", ()), (1, 1, "clause", (NOT_A,)),
            (1, 1, "clause", (NOT_A, B)), (1, 1, "clause", (A,)), (1, 1, "clause", (B,)), (1, 1, "strike", ()),
            (1, 1, "weight", "a", (-3, 4), (1, 1)), (1, 1, "weight", "a", (1, 2), (0, 1)), (1, 1, "weight", "a", (1, 2), (1, 9)),
            (1, 1, "weight", "a", (1, 3), (0, 1)), (1, 1, "weight", "b", (0, 1), (0, 1)), (1, 1, "show", "a"),
            (1, 1, "hide", "a"), (1, 2, "name", "a"), (2, 0, "name", "a"), (10, 0, "name", "a")]
        for at, one in enumerate(rising):
            for behind, other in enumerate(rising):
                self.assertIs(is_book((one, other)), at < behind)
        self.assertEqual(in_order(rising[::-1]), tuple(rising))

    def test_strange_things(self):
        for thing in strange_things():
            self.assertIs(is_book(thing), thing == () and isinstance(thing, tuple))
            self.assertIs(is_book((thing,)), False)
            self.assertIs(is_book((PAGES[0], thing)), False)

    def test_no_bound(self):
        book = tuple((day, 0, "name", "a") for day in range(1000))
        self.assertIs(is_book(book), True)


class Orders(unittest.TestCase):
    def test_in_order(self):
        self.assertEqual(in_order([]), ())
        self.assertEqual(in_order(()), ())
        self.assertEqual(in_order(pages=[PAGES[1], PAGES[0], PAGES[1]]), (PAGES[0], PAGES[1]))
        for seed in range(80):
            pages = any_pages(seed)
            before = copy.deepcopy(pages)
            wanted = plain_book(pages)
            self.assertEqual(in_order(pages), wanted)
            self.assertEqual(in_order(tuple(pages[::-1])), wanted)
            self.assertEqual(pages, before)
            self.assertIs(is_book(in_order(pages)), True)
            self.assertEqual(in_order(wanted), wanted)

    def test_two_hundred(self):
        pages = any_pages(5, many=194)
        self.assertEqual(in_order(pages), plain_book(pages))

    def test_joined(self):
        books = some_books(24)
        for one in books:
            self.assertEqual(joined(one, one), one)
            self.assertEqual(joined(one, ()), one)
            self.assertEqual(joined(other=one, one=()), one)
            for other in books:
                self.assertEqual(joined(one, other), plain_book(one + other))
                self.assertEqual(joined(one, other), joined(other, one))

    def test_up_to(self):
        for book in some_books(30):
            for until in moments():
                wanted = tuple(page for page in book if until is None or page[:2] <= until)
                self.assertEqual(up_to(book, until), wanted)
                self.assertEqual(up_to(until=until, book=book), wanted)
            self.assertEqual(up_to(book), book)

    def test_ahead_of_all_at_one_behind_all(self):
        book = ((1, 5, "name", "a"), (1, 6, "name", "b"), (2, 0, "show", "a"))
        for until, many in (((0, 999), 0), ((1, 4), 0), ((1, 5), 1), ((1, 6), 2), ((1, 999), 2), ((2, 0), 3), ((9, 0), 3)):
            self.assertEqual(up_to(book, until), book[:many])

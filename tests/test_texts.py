"""Points 76, 77: the lines of PAGES, BOOKS, FORMS, and what is read of them."""

import copy
import unittest

from tests.book_samples import any_page, any_pages, plain_book, plain_fault, some_books
from tests.samples import Mixer, all_small_forms, mixed_forms
from waycircuits.errors import FormError, NoText
from waycircuits.forms import is_form
from waycircuits.pages import is_page
from waycircuits.readings import read_book, read_form, read_page
from waycircuits.texts import book_lines, form_lines, page_line

A, NOT_A, B, NOT_B = ("a", True), ("a", False), ("b", True), ("b", False)
LINES = {
    (4, 0, "clause", (NOT_A, B)): "4 0 clause -a,b", (5, 1, "weight", "a", (1, 2), (-3, 4)): "5 1 weight a 1/2 -3/4",
    (6, 0, "hide", "b"): "6 0 hide b", (0, 999, "name", "abcdefgh"): "0 999 name abcdefgh",
    (99999, 0, "show", "z"): "99999 0 show z", (1, 1, "strike", ()): "1 1 strike !", (1, 1, "clause", ()): "1 1 clause !",
    (7, 2, "strike", (A, NOT_B)): "7 2 strike a,-b", (10, 100, "weight", "b", (0, 1), (2, 1)): "10 100 weight b 0/1 2/1",
    (1, 1, "clause", (NOT_A,)): "1 1 clause -a",
    (0, 0, "weight", "a", (-999999999, 1), (1, 999999999)): "0 0 weight a -999999999/1 1/999999999"}


class Case(unittest.TestCase):
    def refuse(self, function, told, row, word):
        before = copy.deepcopy(told)
        with self.assertRaises(NoText) as caught:
            function(told)
        self.assertEqual((caught.exception.row, caught.exception.word), (row, word), told)
        self.assertIsInstance(caught.exception, FormError)
        self.assertEqual(told, before)


class Writes(Case):
    def test_pages(self):
        for page, line in LINES.items():
            self.assertEqual(page_line(page), line)
            self.assertEqual(page_line(page=page), line)
        self.assertEqual(page_line((0, 0, "weight", "a", (10 ** 12, 1), (-1, 10 ** 11))), f"0 0 weight a {10 ** 12}/1 -1/{10 ** 11}")

    def test_books(self):
        self.assertEqual(book_lines(()), [])
        for book in some_books(30):
            told = book_lines(book)
            self.assertEqual(told, [page_line(page) for page in book])
            told.append(None)
            self.assertEqual(book_lines(book=book), told[:-1])

    def test_forms(self):
        self.assertEqual(form_lines(((), ())), ["names"])
        self.assertEqual(form_lines(((), ((),))), ["names", "clause !"])
        self.assertEqual(form_lines(form=(("a", "b"), ((NOT_A, B), (A,)))), ["names a b", "clause -a,b", "clause a"])
        told = form_lines((("a",), ()))
        told.clear()
        self.assertEqual(form_lines((("a",), ())), ["names a"])


class ReadsPages(Case):
    def test_what_is_written_is_read_as_the_same(self):
        for page, line in LINES.items():
            self.assertEqual(read_page(line), page)
            self.assertEqual(read_page(text=line), page)
        for seed in range(300):
            page = any_page(Mixer(seed))
            self.assertEqual(read_page(page_line(page)), page)
            self.assertIs(is_page(read_page(page_line(page))), True)

    def test_words_that_lack(self):
        for line in LINES.values():
            words = line.split(" ")
            for many in range(1, len(words)):
                self.refuse(read_page, " ".join(words[:many]), 0, many)

    def test_a_void_text(self):
        self.refuse(read_page, "", 0, 0)
        self.refuse(read_page, " ", 0, 0)

    def test_words_more(self):
        for line in LINES.values():
            many = len(line.split(" "))
            for more in ("a", "1/1", "", "0", "a b", " "):
                self.refuse(read_page, f"{line} {more}", 0, many)

    def test_void_words(self):
        for line in LINES.values():
            self.refuse(read_page, " " + line, 0, 0)
            words = line.split(" ")
            for at in range(1, len(words)):
                self.refuse(read_page, " ".join([*words[:at], "", *words[at:]]), 0, at)
                self.refuse(read_page, " ".join([*words[:at], "", *words[at + 1:]]), 0, at)

    def test_moments(self):
        for word in ("00", "01", "-1", "-0", "+1", "a", "1.0", "100000", "1234567890", "0000000000", "!", "1,0", "\t1", "0x1", "1_0"):
            self.refuse(read_page, f"{word} 0 name a", 0, 0)
            self.refuse(read_page, f"0 {word} name a", 0, 1)
        self.refuse(read_page, "0 1000 name a", 0, 1)
        self.refuse(read_page, "0 99999 name a", 0, 1)
        self.assertEqual(read_page("99999 999 name a"), (99999, 999, "name", "a"))

    def test_kinds(self):
        for word in ("Name", "names", "nam", "", "a", "0", "clauses", "tell", "!", "-name"):
            self.refuse(read_page, f"0 0 {word} a", 0, 2)

    def test_names(self):
        for kind in ("name", "show", "hide", "weight"):
            for word in ("", "A", "-a", "abcdefghi", "a1", "a,b", "!", "1", "a.", "a-"):
                self.refuse(read_page, f"0 0 {kind} {word} 1/1 1/1", 0, 3)

    def test_clauses(self):
        for kind in ("clause", "strike"):
            for word in ("", "A", "--a", "-", "a,", ",a", "a,,b", "b,a", "a,a", "a,-a", "-a,a", "-b,a", "a,!", "!,a", "!!", "-!", "a;b",
                         "abcdefghi", "a,B", "a,-", "1", "a,b,", ","):
                self.refuse(read_page, f"0 0 {kind} {word}", 0, 3)
        self.assertEqual(read_page("0 0 clause -a,b,-c"), (0, 0, "clause", (NOT_A, B, ("c", False))))
        self.assertEqual(read_page("0 0 clause a,aa,b"), (0, 0, "clause", (A, ("aa", True), B)))

    def test_fractions(self):
        for word in ("", "1", "1/", "/1", "/", "2/4", "0/2", "-0/1", "1/0", "0/0", "1/-2", "+1/2", "1/2/3", "01/2", "1/02", "--1/2", "a/b",
                     "1.5", "1/1.", "- 1/2", "1234567890/1", "1/1234567890", "-1234567890/1", "1//2", "-/1", "-2/4", "1-/2", "0/10", "00/1"):
            if " " not in word:
                self.refuse(read_page, f"0 0 weight a {word} 1/1", 0, 4)
                self.refuse(read_page, f"0 0 weight a 1/1 {word}", 0, 5)
        self.assertEqual(read_page("0 0 weight a 123456789/1 -1/123456789")[4:], ((123456789, 1), (-1, 123456789)))

    def test_the_first_word_that_cant_stand(self):
        self.refuse(read_page, "x 0 nome A b", 0, 0)
        self.refuse(read_page, "0 x nome A b", 0, 1)
        self.refuse(read_page, "0 0 nome A b", 0, 2)
        self.refuse(read_page, "0 0 name A b", 0, 3)
        self.refuse(read_page, "0 0 weight a", 0, 4)
        self.refuse(read_page, "0 0 weight A", 0, 3)
        self.refuse(read_page, "0 0 weight a 1/1 2/2 a", 0, 5)

    def test_lines_turned_by_one_sign(self):
        told = set()
        for line in LINES.values():
            for at in range(len(line) + 1):
                for sign in " 0a-,/!1~.":
                    for turned in (line[:at] + sign + line[at:], line[:at] + sign + line[at + 1:], line[:at] + line[at + 1:]):
                        fault = plain_fault(turned)
                        told.add(fault)
                        if fault is None:
                            self.assertEqual(page_line(read_page(turned)), turned)
                        else:
                            self.refuse(read_page, turned, 0, fault)
        self.assertEqual(told, {None, 0, 1, 2, 3, 4, 5, 6})


class ReadsBooks(Case):
    def test_what_is_written_is_read_as_the_same(self):
        self.assertEqual(read_book([]), ())
        for seed in range(60):
            pages = any_pages(seed)
            lines = [page_line(page) for page in pages]
            before = list(lines)
            self.assertEqual(read_book(lines), plain_book(pages))
            self.assertEqual(read_book(lines=lines[::-1]), plain_book(pages))
            self.assertEqual(lines, before)
            self.assertEqual(read_book(book_lines(plain_book(pages))), plain_book(pages))

    def test_the_first_line_that_writes_none(self):
        good = ["1 0 name a", "0 0 name b", "0 0 name b"]
        self.refuse(read_book, [""], 0, 0)
        self.refuse(read_book, [*good, "0 0 nome b", "x"], 3, 2)
        self.refuse(read_book, ["0 0 name a ", *good], 0, 4)
        self.refuse(read_book, [*good, "0 0"], 3, 2)
        self.refuse(read_book, [good[0], "", good[1]], 1, 0)
        # what can't be done may be written
        self.assertEqual(read_book(["0 0 show a"]), ((0, 0, "show", "a"),))


class ReadsForms(Case):
    def test_what_is_written_is_read_as_the_same(self):
        for form in [*all_small_forms(), *mixed_forms(60), ((), ()), ((), ((),))]:
            lines = form_lines(form)
            self.assertEqual(read_form(lines), form)
            self.assertEqual(read_form(lines=[lines[0], *lines[:0:-1], *lines[1:]]), form)
            self.assertIs(is_form(read_form(lines)), True)

    def test_no_lines(self):
        self.refuse(read_form, [], 0, 0)

    def test_the_first_line(self):
        for line in ("", " names", "clause a", "clause !", "name a", "Names a", "a b", "0 0 name a", "namesa", " "):
            self.refuse(read_form, [line], 0, 0)
            self.refuse(read_form, [line, "names a"], 0, 0)
        for line, word in (("names ", 1), ("names a  b", 2), ("names a ", 2), ("names b a", 2), ("names a a", 2), ("names a c b", 3),
                           ("names A", 1), ("names a B c", 2), ("names a,b", 1), ("names abcdefghi", 1), ("names a 1", 2), ("names !", 1)):
            self.refuse(read_form, [line, "x"], 0, word)

    def test_lines_behind(self):
        for line, word in (("", 0), ("names a b", 0), ("names", 0), ("strike a", 0), (" clause a", 0), ("a", 0), ("Clause a", 0),
                           ("clause", 1), ("clause ", 1), ("clause c", 1), ("clause a,c", 1), ("clause b,a", 1), ("clause a,-a", 1),
                           ("clause a b", 2), ("clause a ", 2), ("clause ! a", 2), ("clause a,!", 1), ("clause  a", 1), ("clause c d", 1)):
            self.refuse(read_form, ["names a b", line], 1, word)
            self.refuse(read_form, ["names a b", "clause a", line, "x"], 2, word)

    def test_names_of_none(self):
        self.assertEqual(read_form(["names"]), ((), ()))
        self.assertEqual(read_form(["names", "clause !", "clause !"]), ((), ((),)))
        self.refuse(read_form, ["names", "clause a"], 1, 1)

    def test_clauses_in_any_order_some_twice(self):
        lines = ["names a b", "clause b", "clause -a,b", "clause b"]
        self.assertEqual(read_form(lines), (("a", "b"), ((NOT_A, B), (B,))))

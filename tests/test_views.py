"""Points 72 to 75: what stands UNTIL a MOMENT, and what is asked of it."""

import copy
import unittest
from fractions import Fraction

from tests.book_samples import Plain, any_pages, moments, plain_book, some_books
from tests.samples import form_of_threes, plain_models, plain_projected, plain_shown_rows, plain_trail, words_of
from waycircuits.asks import count_at, shown_count_at, weight_at
from waycircuits.books import in_order, is_book, up_to
from waycircuits.errors import FormError, NoMore
from waycircuits.fractions import is_fraction
from waycircuits.views import form_at, idle, shown_at, weights_at
from waycircuits.weights import is_weights, weigh_by_rows

A, NOT_A, B, NOT_B = ("a", True), ("a", False), ("b", True), ("b", False)
NAME_A, NAME_B = (1, 0, "name", "a"), (1, 0, "name", "b")
EITHER = (1, 1, "clause", (A, B))


class Idle(unittest.TestCase):
    def check(self, page, word, *ahead):
        """The PAGE behind those is IDLE with this word, or done, of None."""
        book = in_order([*ahead, page])
        self.assertEqual(book[-1], page)
        self.assertEqual(idle(book), idle(book[:-1]) + ([(page, word)] if word else []))

    def test_name(self):
        self.check(NAME_A, None)
        self.check((2, 0, "name", "a"), "there", NAME_A)
        self.check((2, 0, "name", "b"), None, NAME_A)
        self.check((2, 0, "name", "a"), "there", NAME_A, (1, 5, "hide", "a"))

    def test_clause(self):
        self.check((2, 0, "clause", (A,)), "name")
        self.check((2, 0, "clause", (A, B)), "name", NAME_A)
        self.check((2, 0, "clause", (A, B)), None, NAME_A, NAME_B)
        self.check((2, 0, "clause", (A, B)), "there", NAME_A, NAME_B, EITHER)
        self.check((2, 0, "clause", (A, NOT_B)), None, NAME_A, NAME_B, EITHER)
        self.check((2, 0, "clause", ()), None)
        self.check((2, 0, "clause", ()), "there", (1, 0, "clause", ()))

    def test_strike(self):
        self.check((2, 0, "strike", (A,)), "name")
        self.check((2, 0, "strike", (A, B)), "name", NAME_A)
        self.check((2, 0, "strike", (A, B)), "none", NAME_A, NAME_B)
        self.check((2, 0, "strike", (A, B)), None, NAME_A, NAME_B, EITHER)
        self.check((2, 0, "strike", (A, B)), "none", NAME_A, NAME_B, EITHER, (1, 2, "strike", (A, B)))
        self.check((2, 0, "strike", ()), "none")
        self.check((2, 0, "strike", ()), None, (1, 0, "clause", ()))

    def test_a_clause_struck_out_that_comes_again(self):
        book = (NAME_A, NAME_B, EITHER, (2, 0, "strike", (A, B)), (3, 0, "clause", (A, B)), (3, 0, "strike", (A,)))
        self.assertEqual(idle(book), [((3, 0, "strike", (A,)), "none")])
        self.assertEqual([form_at(book, until)[1] for until in ((1, 9), (2, 0), (3, 0))], [((A, B),), (), ((A, B),)])

    def test_weight(self):
        one = ((1, 1), (1, 1))
        self.check((2, 0, "weight", "a", *one), "name")
        # a name without a weight doesn't weigh ONE and ONE yet
        self.check((2, 0, "weight", "a", *one), None, NAME_A)
        self.check((2, 0, "weight", "a", *one), "same", NAME_A, (1, 1, "weight", "a", *one))
        self.check((2, 0, "weight", "a", (1, 1), (1, 2)), None, NAME_A, (1, 1, "weight", "a", *one))
        self.check((2, 0, "weight", "a", *one), None, NAME_A, (1, 1, "weight", "a", *one),
                   (1, 2, "weight", "a", (0, 1), (1, 1)))
        self.check((2, 0, "weight", "b", *one), None, NAME_A, NAME_B, (1, 1, "weight", "a", *one))

    def test_show_and_hide(self):
        self.check((2, 0, "show", "a"), "name")
        self.check((2, 0, "hide", "a"), "name", NAME_B)
        self.check((2, 0, "show", "a"), "same", NAME_A)
        self.check((2, 0, "hide", "a"), None, NAME_A)
        self.check((2, 0, "hide", "a"), "same", NAME_A, (1, 5, "hide", "a"))
        self.check((2, 0, "show", "a"), None, NAME_A, (1, 5, "hide", "a"))
        self.check((2, 0, "show", "a"), "same", NAME_A, (1, 5, "hide", "a"), (1, 6, "show", "a"))

    def test_of_one_moment_by_the_order_of_kinds(self):
        book = (
            (1, 0, "name", "a"), (1, 0, "clause", (A,)), (1, 0, "strike", (A,)), (1, 0, "weight", "a", (0, 1), (1, 1)),
            (1, 0, "weight", "a", (1, 1), (0, 1)), (1, 0, "show", "a"), (1, 0, "hide", "a"))
        self.assertIs(is_book(book), True)
        self.assertEqual(idle(book), [((1, 0, "show", "a"), "same")])
        self.assertEqual((form_at(book), shown_at(book)), ((("a",), ()), ()))
        self.assertEqual(weights_at(book), (("a", (1, 1), (0, 1)),))

    def test_told_late(self):
        late = (0, 5, "name", "b")
        book = (NAME_A, EITHER)
        self.assertEqual(idle(book), [(EITHER, "name")])
        self.assertEqual(idle(in_order([*book, late])), [])

    def test_the_askers_own(self):
        book = ((1, 0, "show", "a"),)
        told = idle(book)
        told.append(None)
        self.assertEqual(idle(book), [(book[0], "name")])
        self.assertIs(type(idle(book)), list)


class Views(unittest.TestCase):
    def test_of_none(self):
        for until in moments():
            self.assertEqual(idle((), until), [])
            self.assertEqual((form_at((), until), weights_at((), until), shown_at((), until)), (((), ()), (), ()))

    def test_of_many(self):
        words = set()
        for book in some_books(100):
            before = copy.deepcopy(book)
            for until in moments():
                plain = Plain(book, until)
                words |= {word for _, word in plain.idle}
                self.assertEqual(idle(book, until), plain.idle)
                self.assertEqual(form_at(until=until, book=book), plain.form())
                self.assertEqual(weights_at(book, until=until), plain.told_weights())
                self.assertIs(is_weights(weights_at(book, until)), True)
                self.assertEqual(shown_at(book, until), plain.shown())
                self.assertEqual(idle(book, until), idle(up_to(book, until)))
            self.assertEqual(idle(book), idle(book, None))
            self.assertEqual((form_at(book), weights_at(book), shown_at(book)),
                             (form_at(book, None), weights_at(book, None), shown_at(book, None)))
            self.assertEqual(book, before)
        self.assertEqual(words, {"there", "name", "none", "same"})

    def test_what_is_idle_turns_none(self):
        for book in some_books(60):
            out = {page for page, _ in idle(book)}
            left = tuple(page for page in book if page not in out)
            self.assertEqual(idle(left), [])
            self.assertEqual((form_at(left), weights_at(left), shown_at(left)),
                             (form_at(book), weights_at(book), shown_at(book)))

    def test_names_never_go(self):
        for book in some_books(40):
            ahead = ()
            for at in range(len(book)):
                names = form_at(book[:at + 1])[0]
                self.assertLessEqual(set(ahead), set(names))
                ahead = names


class Asks(unittest.TestCase):
    def plain_weight(self, plain, free=(1, 1)):
        told = {name: pair for name, *pair in plain.told_weights()}
        total = Fraction(0)
        for row in plain_models(plain.form()):
            weight = Fraction(1)
            for name, truth in row.items():
                weight *= Fraction(*told.get(name, (free, free))[truth])
            total += weight
        return (total.numerator, total.denominator)

    def test_of_none(self):
        self.assertEqual((count_at(()), shown_count_at(()), weight_at(())), (1, 1, (1, 1)))
        self.assertEqual(weight_at((), free=(0, 1)), (1, 1))
        void = ((0, 0, "clause", ()),)
        self.assertEqual((count_at(void), shown_count_at(void), weight_at(void)), (0, 0, (0, 1)))

    def test_small_ones(self):
        book = (NAME_A, NAME_B, EITHER, (2, 0, "weight", "a", (1, 2), (-3, 4)), (2, 0, "hide", "b"), (3, 0, "clause", (NOT_B,)))
        self.assertEqual([count_at(book, until) for until in ((0, 9), (1, 0), (1, 1), (2, 0), (3, 0), None)], [1, 4, 3, 3, 1, 1])
        self.assertEqual([shown_count_at(book, until) for until in ((0, 9), (1, 0), (1, 1), (2, 0), None)], [1, 4, 3, 2, 1])
        self.assertEqual([weight_at(book, until) for until in ((0, 9), (1, 0), (1, 1), (2, 0), None)],
                         [(1, 1), (4, 1), (3, 1), (-1, 1), (-3, 4)])
        self.assertEqual(weight_at(book, (2, 0), free=(2, 1)), (-2, 1))
        self.assertEqual(weight_at(free=(0, 1), until=None, book=book), (0, 1))

    def test_of_many(self):
        for book in some_books(100):
            for until in (None, (1, 1), (2, 2)):
                plain = Plain(book, until)
                form = plain.form()
                self.assertEqual(count_at(book, until), len(plain_models(form)))
                self.assertEqual(shown_count_at(book, until), len(plain_shown_rows(form, plain.shown())))
                for free in ((1, 1), (0, 1), (-2, 3)):
                    told = weight_at(book, until, free=free)
                    self.assertIs(is_fraction(told), True)
                    self.assertEqual(told, self.plain_weight(plain, free))
                    self.assertEqual(told, weigh_by_rows(form, plain.told_weights(), free=free))

    def refuse(self, ask, book, most, **more):
        with self.assertRaises(NoMore) as caught:
            ask(book, most=most, **more)
        self.assertEqual(caught.exception.rows, most)
        self.assertIsInstance(caught.exception, FormError)

    def test_most(self):
        for book in some_books(40):
            for until in (None, (2, 0)):
                plain = Plain(book, until)
                for ask, trail in ((count_at, plain_trail(plain.form())),
                                   (shown_count_at, plain_projected(plain.form(), plain.shown()))):
                    many = len(trail)
                    self.assertEqual(ask(book, until, most=many), ask(book, until))
                    self.refuse(ask, book, many - 1, until=until)
                    self.refuse(ask, book, 0, until=until)

    def test_most_left_out_is_steps(self):
        names, clauses = form_of_threes(100, 40, 90)
        book = (*[(0, 0, "name", name) for name in names], *[(0, 1, "clause", clause) for clause in clauses])
        self.assertIs(is_book(book), True)
        for ask in (count_at, shown_count_at):
            with self.assertRaises(NoMore) as caught:
                ask(book)
            self.assertEqual(caught.exception.rows, 4000)

    def test_most_and_free_by_name_alone(self):
        for ask in (count_at, shown_count_at, weight_at):
            with self.assertRaises(TypeError):
                ask((), None, 9)

    def test_twelve_names(self):
        names = words_of(12)
        book = (*[(0, 0, "name", name) for name in names],
                *[(1, 0, "clause", ((one, False), (other, True))) for one, other in zip(names, names[1:])])
        self.assertEqual((count_at(book), shown_count_at(book), weight_at(book)), (13, 13, (13, 1)))


class Deeds(unittest.TestCase):
    """What one PAGE more does ([75])."""

    def each(self, kind):
        """Of BOOKS all up to a PAGE of this kind that is done, and with it."""
        for seed in range(120):
            book = plain_book(any_pages(seed))
            out = {page for page, _ in idle(book)}
            for at, page in enumerate(book):
                if page[2] == kind and page not in out:
                    yield book[:at], book[:at + 1], page

    def test_all_hangs_on_which_pages_there_are(self):
        for seed in range(40):
            pages = any_pages(seed)
            told = {(count_at(book), shown_count_at(book), weight_at(book))
                    for book in (in_order(pages), in_order(pages[::-1]), in_order(pages + pages[::2]))}
            self.assertEqual(len(told), 1)

    def test_a_clause(self):
        seen = 0
        for ahead, behind, _ in self.each("clause"):
            self.assertLessEqual(count_at(behind), count_at(ahead))
            self.assertLessEqual(shown_count_at(behind), shown_count_at(ahead))
            seen += 1
        self.assertGreater(seen, 50)

    def test_a_strike(self):
        seen = 0
        for ahead, behind, _ in self.each("strike"):
            self.assertGreaterEqual(count_at(behind), count_at(ahead))
            self.assertGreaterEqual(shown_count_at(behind), shown_count_at(ahead))
            seen += 1
        self.assertGreater(seen, 5)

    def test_a_name(self):
        for ahead, behind, page in self.each("name"):
            self.assertEqual(count_at(behind), 2 * count_at(ahead))
            self.assertEqual(shown_count_at(behind), 2 * shown_count_at(ahead))
            for free in ((1, 1), (-2, 3)):
                wanted = Fraction(*weight_at(ahead, free=free)) * 2 * Fraction(*free)
                self.assertEqual(Fraction(*weight_at(behind, free=free)), wanted)
            weighed = in_order([*behind, (4, 0, "weight", page[3], (1, 2), (-3, 4))])
            self.assertEqual(Fraction(*weight_at(weighed)), Fraction(*weight_at(ahead)) * Fraction(-1, 4))

"""Points 5, 12, 14: LITERALS PUT."""

import unittest
from itertools import permutations

from tests.samples import all_small_forms, mixed_forms, plain_models, plain_put, words_of
from waycircuits.errors import LackError, NoName
from waycircuits.forms import are_clauses, is_form
from waycircuits.putting import form_put, put, put_all
from waycircuits.rows import count_by_rows, models

A, NOT_A, B, NOT_B = ("a", True), ("a", False), ("b", True), ("b", False)


class Putting(unittest.TestCase):
    def test_clause_that_has_it_goes_out(self):
        self.assertEqual(put(((A,), (A, B), (B,)), A), ((B,),))

    def test_contrary_is_taken_away(self):
        self.assertEqual(put(((NOT_A, B),), A), ((B,),))
        self.assertEqual(put(((NOT_A,),), A), ((),))
        self.assertEqual(put(((A,),), NOT_A), ((),))

    def test_like_ones_once_and_rising(self):
        self.assertEqual(put(((NOT_A, B), (B,)), A), ((B,),))
        self.assertEqual(put(((NOT_A, ("c", True)), (B,)), A), ((B,), (("c", True),)))
        self.assertEqual(put(((), (NOT_A,)), A), ((),))

    def test_strange_name_changes_nothing(self):
        clauses = ((), (A, NOT_B), (NOT_B,))
        for truth in (False, True):
            self.assertEqual(put(clauses, ("zz", truth)), clauses)
        self.assertEqual(put((), A), ())

    def test_many(self):
        for form in [*all_small_forms(), *mixed_forms(50)]:
            for name in (*form[0], "zz"):
                for truth in (False, True):
                    told = put(form[1], (name, truth))
                    self.assertEqual(told, plain_put(form[1], name, truth))
                    self.assertIs(are_clauses(told), True)

    def test_hundreds(self):
        clause = tuple((name, True) for name in words_of(600))
        self.assertEqual(put((clause,), ("aaa", False)), (clause[1:],))
        self.assertEqual(put((clause,), ("aaa", True)), ())

    def test_put_all(self):
        clauses = ((NOT_A, NOT_B, ("c", True)), (NOT_A, ("d", True)))
        self.assertEqual(put_all(clauses, ()), clauses)
        self.assertEqual(put_all(clauses, (B, A)), ((("c", True),), (("d", True),)))
        self.assertEqual(put_all(clauses, (("zz", True), NOT_A)), ())
        self.assertEqual(put_all(((NOT_A, NOT_B),), (A, B)), ((),))

    def test_any_order_leads_to_one(self):
        for form in mixed_forms(30):
            literals = (("a", True), ("c", False), ("e", True), ("zz", False))
            told = {put_all(form[1], some) for some in permutations(literals)}
            self.assertEqual(len(told), 1)

    def test_form_put(self):
        form = (("a", "b", "c"), ((NOT_A, B), (NOT_B,)))
        self.assertEqual(form_put(form, A), (("b", "c"), ((NOT_B,), (B,))))
        self.assertEqual(form_put(form, NOT_A), (("b", "c"), ((NOT_B,),)))
        self.assertEqual(form_put(form, ("c", True)), (("a", "b"), form[1]))

    def test_form_put_refused(self):
        for form, name in (((("a",), ((A,),)), "b"), (((), ()), "a"), ((("a", "c"), ()), "b")):
            with self.assertRaises(NoName) as caught:
                form_put(form, (name, True))
            self.assertEqual(caught.exception.name, name)
            self.assertIsInstance(caught.exception, LackError)

    def test_models_behind_it_are_those_that_have_it(self):
        for form in [*all_small_forms(), *mixed_forms(40)]:
            for at, name in enumerate(form[0]):
                for truth in (False, True):
                    behind = form_put(form, (name, truth))
                    self.assertIs(is_form(behind), True)
                    wanted = [row[:at] + row[at + 1:] for row in models(form) if row[at] is truth]
                    self.assertEqual(list(models(behind)), wanted)

    def test_count_is_both_sides_added(self):
        for form in mixed_forms(40):
            for name in form[0]:
                sides = [count_by_rows(form_put(form, (name, truth))) for truth in (False, True)]
                self.assertEqual(sum(sides), len(plain_models(form)))

    def test_by_name(self):
        self.assertEqual(put(literal=A, clauses=((A,),)), ())
        self.assertEqual(put_all(literals=(A,), clauses=((A,),)), ())
        self.assertEqual(form_put(literal=A, form=(("a",), ((A,),))), ((), ()))

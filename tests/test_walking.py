"""Points 6, 26, 27: THE WALK, the TRAIL told, the COUNT alone."""

import unittest

from tests.samples import all_small_forms, form_of_threes, mixed_form, mixed_forms, plain_models, plain_trail, words_of
from waycircuits.errors import FormError, NoMore
from waycircuits.forms import names_in
from waycircuits.rows import count_by_rows
from waycircuits.trailchecker import lets_trail
from waycircuits.walking import STEPS, counted, trail_of

A, NOT_A, B, NOT_B, C, NOT_C = ("a", True), ("a", False), ("b", True), ("b", False), ("c", True), ("c", False)
FREE = ((), 1, ("free",))


def big_form():
    """A FORM whose WALK lays hundreds of rows, one within another."""
    names = words_of(500)
    return (names, tuple(((one, False), (other, True)) for one, other in zip(names, names[1:])) + (((names[-1], False),),))


class Walking(unittest.TestCase):
    def test_steps(self):
        self.assertEqual(STEPS, 4000)
        self.assertIs(type(STEPS), int)

    def test_free(self):
        self.assertEqual(trail_of(((), ())), (FREE,))
        self.assertEqual(trail_of((("a", "b"), ())), (FREE,))
        self.assertEqual(counted((("a", "b"), ())), 4)
        self.assertEqual(counted(((), ())), 1)

    def test_void(self):
        void = (((),), 0, ("void",))
        self.assertEqual(trail_of((("a",), ((),))), (void,))
        self.assertEqual(trail_of((("a",), ((), (A,)))), ((((), (A,)), 0, ("void",)),))
        self.assertEqual(counted((("a",), ((),))), 0)
        self.assertEqual(counted(((), ((),))), 0)

    def test_unit_of_the_least_literal(self):
        self.assertEqual(trail_of((("a", "b"), ((NOT_A,), (NOT_B,)))), (
            FREE, (((NOT_B,),), 1, ("unit", NOT_B, 0)), (((NOT_A,), (NOT_B,)), 1, ("unit", NOT_A, 1))))
        self.assertEqual(trail_of((("a",), ((NOT_A,), (A,)))), (
            (((),), 0, ("void",)), (((NOT_A,), (A,)), 0, ("unit", NOT_A, 0))))

    def test_unit_goes_ahead_of_parts_and_split(self):
        clauses = ((A, B), (C,))
        self.assertEqual(trail_of((("a", "b", "c"), clauses))[-1][2], ("unit", C, 2))

    def test_unit_doubles_lost_names(self):
        self.assertEqual(trail_of((("a", "b", "c"), ((A,), (A, B), (A, C)))), (
            FREE, (((A,), (A, B), (A, C)), 4, ("unit", A, 0))))

    def test_parts(self):
        clauses = ((A, B), (C, ("d", True)))
        self.assertEqual(trail_of((("a", "b", "c", "d"), clauses)), (
            FREE,
            (((B,),), 1, ("unit", B, 0)),
            (((A, B),), 3, ("split", "a", 1, 0)),
            (((("d", True),),), 1, ("unit", ("d", True), 0)),
            (((C, ("d", True)),), 3, ("split", "c", 3, 0)),
            (clauses, 9, ("parts", (2, 4)))))

    def test_split_of_the_commonest_name(self):
        clauses = ((A, B), (NOT_B, C))
        self.assertEqual(trail_of((("a", "b", "c"), clauses)), (
            FREE, (((A,),), 1, ("unit", A, 0)), (((C,),), 1, ("unit", C, 0)), (clauses, 4, ("split", "b", 1, 2))))

    def test_split_of_like_ones_the_least(self):
        clauses = ((NOT_A, B), (A, NOT_B))
        self.assertEqual(trail_of((("a", "b"), tuple(sorted(clauses))))[-1][2], ("split", "a", 1, 2))

    def test_just_that_trail_row_by_row(self):
        for form in [*all_small_forms(), *mixed_forms(150), *mixed_forms(40, most=24, size=4)]:
            self.assertEqual(trail_of(form), plain_trail(form))

    def test_trail_shows_the_count(self):
        for form in [*all_small_forms(), *mixed_forms(150)]:
            trail = trail_of(form)
            wanted = len(plain_models(form))
            self.assertEqual(lets_trail(form, trail), wanted)
            self.assertEqual(counted(form), wanted)

    def test_no_clauses_twice(self):
        for form in mixed_forms(60, most=16):
            clauses = [row[0] for row in trail_of(form)]
            self.assertEqual(len(clauses), len(set(clauses)))

    def test_each_rows_count_is_that_of_the_rows_of_its_names(self):
        for form in mixed_forms(60):
            for clauses, count, _ in trail_of(form):
                self.assertEqual(count, count_by_rows((names_in(clauses), clauses)))

    def test_names_in_no_clause(self):
        form = (("a", "b", "c", "d"), ((B, C),))
        self.assertEqual(counted(form), 12)
        self.assertEqual(trail_of(form), trail_of((("b", "c"), ((B, C),))))

    def test_most(self):
        for form in mixed_forms(40):
            many = len(trail_of(form))
            self.assertEqual(trail_of(form, most=many), trail_of(form))
            self.assertEqual(counted(form, most=many), counted(form))
            self.assertEqual(trail_of(form, most=many + 1), trail_of(form))
            for most in {0, many // 2, many - 1}:
                for told in (trail_of, counted):
                    with self.assertRaises(NoMore) as caught:
                        told(form, most=most)
                    self.assertEqual(caught.exception.rows, most)
                    self.assertIsInstance(caught.exception, FormError)

    def test_most_left_out_is_steps(self):
        form = form_of_threes(100, 40, 90)
        with self.assertRaises(NoMore) as caught:
            trail_of(form)
        self.assertEqual(caught.exception.rows, 4000)
        with self.assertRaises(NoMore):
            counted(form)
        self.assertGreater(len(trail_of(form, most=10 ** 6)), 4000)

    def test_hundreds_of_rows_within_one_another(self):
        form = big_form()
        trail = trail_of(form)
        self.assertEqual(len(trail), 501)
        self.assertEqual(lets_trail(form, trail), 1)
        self.assertEqual(counted(form), 1)
        wide = (words_of(300), (tuple((name, True) for name in words_of(300)),))
        self.assertEqual(counted(wide), 2 ** 300 - 1)
        self.assertEqual(lets_trail(wide, trail_of(wide)), 2 ** 300 - 1)

    def test_kinds(self):
        trail = trail_of(form=mixed_form(5), most=99)
        self.assertIs(type(trail), tuple)
        for row in trail:
            self.assertEqual([type(thing) for thing in row], [tuple, int, tuple])
        self.assertIs(type(counted(form=mixed_form(5), most=99)), int)

    def test_most_by_name_alone(self):
        for told in (trail_of, counted):
            with self.assertRaises(TypeError):
                told(((), ()), 9)

    def test_nothing_hangs_on_what_was_asked_before(self):
        form = mixed_form(11)
        first = trail_of(form)
        for other in mixed_forms(5):
            trail_of(other)
        self.assertEqual(trail_of(form, most=len(first)), first)

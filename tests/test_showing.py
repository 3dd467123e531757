"""Points 32, 34, 35: how many SHOWN ROWS there are, and a PROJECTED TRAIL that SHOWS it."""

import copy
import unittest
from itertools import combinations

from tests.samples import (
    all_small_forms, form_of_threes, mixed_form, mixed_forms, plain_models, plain_projected, plain_shown_rows, plain_trail,
    some_of, words_of)
from waycircuits.errors import LackError, NoMore, NoName
from waycircuits.forming import formed
from waycircuits.rows import count_by_rows
from waycircuits.sentences import sentence_names
from waycircuits.showchecker import lets_projected
from waycircuits.showing import projected
from waycircuits.walking import trail_of

A, NOT_A, B, NOT_B, C, NOT_C = ("a", True), ("a", False), ("b", True), ("b", False), ("c", True), ("c", False)
FREE, VOID = ((), 1, ("free",)), (((),), 0, ("void",))
# b is False and True whatever a is
NEVER = ((NOT_B, NOT_C), (NOT_B, C), (B, NOT_C), (B, C))


def subsets(names):
    for many in range(len(names) + 1):
        yield from combinations(names, many)


def without_literals(trail):
    return tuple((clauses, count, rule[:1] if rule[0] == "model" else rule) for clauses, count, rule in trail)


class Told(unittest.TestCase):
    def test_free_and_void(self):
        for shown, count in (((), 1), (("a",), 2), (("a", "b"), 4)):
            self.assertEqual(projected((("a", "b"), ()), shown), (count, (FREE,)))
            self.assertEqual(projected((("a", "b"), ((),)), shown), (0, (VOID,)))
        self.assertEqual(projected(((), ()), ()), (1, (FREE,)))

    def test_void_and_free_go_ahead_of_model_and_never(self):
        self.assertEqual(projected((("a",), ((), (A,))), ()), (0, ((((), (A,)), 0, ("void",)),)))
        self.assertEqual(projected((("a",), ()), ()), (1, (FREE,)))

    def test_model_goes_ahead_of_unit_and_parts(self):
        count, trail = projected((("a", "b"), ((A,), (B,))), ())
        self.assertEqual((count, len(trail)), (1, 1))
        self.assertEqual(trail[0][:2], (((A,), (B,)), 1))
        self.assertEqual(trail[0][2], ("model", (A, B)))

    def test_never_has_the_trail_of_the_walk(self):
        form = (("b", "c"), tuple(sorted(NEVER)))
        self.assertEqual(projected(form, ()), (0, ((form[1], 0, ("never", trail_of(form))),)))

    def test_a_hidden_name_is_settled_by_unit(self):
        form = (("a", "b"), ((NOT_A, NOT_B), (A,)))
        count, trail = projected(form, ("b",))
        self.assertEqual(count, 1)
        self.assertEqual([row[2] for row in trail], [("free",), ("unit", NOT_B, 0), ("unit", A, 1)])

    def test_unit_of_the_least_literal_of_whatever_name(self):
        form = (("a", "b", "c"), ((A,), (B,), (C,)))
        for shown in (("a",), ("b",), ("c",), ("a", "b", "c")):
            self.assertEqual(projected(form, shown)[1][-1][2][:2], ("unit", A))

    def test_split_of_a_shown_name_alone(self):
        # b stands in most of the clauses, but is hidden
        form = (("a", "b", "c"), ((NOT_B, C), (A, B)))
        self.assertEqual(projected(form, ("a", "c"))[1][-1][2][:2], ("split", "a"))
        self.assertEqual(projected(form, ("c",))[1][-1][2][:2], ("split", "c"))
        self.assertEqual(projected(form, ("b",))[1][-1][2][:2], ("split", "b"))

    def test_a_name_lost_doubles_where_it_is_shown(self):
        form = (("a", "b", "c"), ((A,), (A, B), (A, C)))
        for shown, count in ((("a",), 1), (("a", "b"), 2), (("a", "c"), 2), (("a", "b", "c"), 4), (("b", "c"), 4)):
            self.assertEqual(projected(form, shown), (count, (FREE, (form[1], count, ("unit", A, 0)))))

    def test_a_name_lost_by_a_split(self):
        form = (("a", "b", "c"), tuple(sorted(((A, B, C), (NOT_A, NOT_B)))))
        for shown in subsets(form[0]):
            self.assertEqual(projected(form, shown)[0], len(plain_shown_rows(form, shown)))

    def test_a_shown_name_that_stands_in_no_clause_doubles(self):
        form = (("a", "b", "c", "d"), ((A, B),))
        self.assertEqual(projected(form, ("c", "d"))[0], 4)
        self.assertEqual(projected(form, ("a", "c"))[0], 4)
        self.assertEqual(projected(form, ("a", "b", "d"))[0], 6)
        self.assertEqual(projected(form, ())[0], 1)

    def test_a_row_isnt_counted_twice(self):
        # both truths of b complete each row of a
        form = (("a", "b"), ((A, B),))
        self.assertEqual(projected(form, ("a",))[0], 2)
        self.assertEqual(projected(form, ("b",))[0], 2)

    def test_parts_of_hidden_names(self):
        form = (("a", "b", "c", "d"), ((A, B), (C, ("d", True))))
        count, trail = projected(form, ("a",))
        self.assertEqual(count, 2)
        self.assertEqual(trail[-1][2][0], "parts")
        self.assertEqual(trail[-2][0], ((C, ("d", True)),))
        self.assertEqual(trail[-2][2][0], "model")

    def test_just_that_trail_but_for_literals(self):
        forms = [(form, shown) for form in all_small_forms() for shown in subsets(form[0])]
        forms += [(form, some_of(seed, form[0])) for seed, form in enumerate(mixed_forms(200))]
        forms += [(form, some_of(seed, form[0])) for seed, form in enumerate(mixed_forms(60, most=24, size=4))]
        for form, shown in forms:
            count, trail = projected(form, shown)
            self.assertEqual(without_literals(trail), plain_projected(form, shown))
            self.assertEqual(count, len(plain_shown_rows(form, shown)))

    def test_literals_of_model_behind_a_side_that_has_none(self):
        form = (("a", "b"), ((A, B), (A, NOT_B)))
        self.assertIn(A, projected((form[0], tuple(sorted(form[1]))), ())[1][0][2][1])

    def test_literals_of_model(self):
        forms = [(form, shown) for form in all_small_forms() for shown in subsets(form[0])]
        for form, shown in [*forms, *((form, some_of(seed, form[0])) for seed, form in enumerate(mixed_forms(120)))]:
            for clauses, _, rule in projected(form, shown)[1]:
                if rule[0] == "model":
                    self.assertEqual(rule[1], tuple(sorted(dict(rule[1]).items())))
                    self.assertTrue(all(set(clause) & set(rule[1]) for clause in clauses))

    def test_it_is_let_by(self):
        for seed, form in enumerate(mixed_forms(150)):
            for shown in ((), form[0], some_of(seed, form[0]), some_of(seed + 1000, form[0])):
                count, trail = projected(form, shown)
                self.assertEqual(lets_projected(form, shown, trail), count)

    def test_all_names_shown_is_the_walk(self):
        for form in [*all_small_forms(), *mixed_forms(60)]:
            self.assertEqual(projected(form, form[0]), (count_by_rows(form), trail_of(form)))

    def test_no_name_shown_is_one_or_nought(self):
        for form in [*all_small_forms(), *mixed_forms(60)]:
            self.assertEqual(projected(form, ())[0], 1 if plain_models(form) else 0)

    def test_a_name_more_shown(self):
        for seed, form in enumerate(mixed_forms(40)):
            shown = some_of(seed, form[0])
            fewer = projected(form, shown)[0]
            for name in form[0]:
                if name not in shown:
                    more = projected(form, tuple(sorted((*shown, name))))[0]
                    self.assertLessEqual(fewer, more)
                    self.assertLessEqual(more, 2 * fewer)

    def test_helpers_hidden(self):
        sentence = ("alike", ("or", (("name", "a"), ("name", "b"))), ("and", (("not", ("name", "c")), ("name", "d"))))
        form, _ = formed(sentence)
        names = sentence_names(sentence)
        self.assertEqual(projected(form, names)[0], count_by_rows(form))
        self.assertEqual(projected(form, ("a", "b"))[0], len(plain_shown_rows(form, ("a", "b"))))

    def test_hundreds_of_names(self):
        names = words_of(400)
        clauses = tuple(((one, False), (other, True)) for one, other in zip(names, names[1:]))
        self.assertEqual(projected((names, clauses), (names[0], names[-1]))[0], 3)
        count, trail = projected((names, (*clauses, ((names[-1], False),))), names[:1])
        self.assertEqual((count, len(trail)), (1, 401))

    def test_kinds(self):
        told = projected(form=mixed_form(5), shown=("a", "c"), most=99)
        self.assertEqual([type(thing) for thing in told], [int, tuple])
        for row in told[1]:
            self.assertEqual([type(thing) for thing in row], [tuple, int, tuple])

    def test_nothing_is_changed(self):
        for seed, form in enumerate(mixed_forms(5)):
            before = copy.deepcopy(form)
            first = projected(form, some_of(seed, form[0]))
            self.assertEqual(form, before)
            self.assertEqual(without_literals(projected(form, some_of(seed, form[0]))[1]), without_literals(first[1]))


class Refused(unittest.TestCase):
    def refuse_name(self, form, shown, name, **more):
        with self.assertRaises(NoName) as caught:
            projected(form, shown, **more)
        self.assertEqual(caught.exception.name, name)
        self.assertIsInstance(caught.exception, LackError)

    def refuse_most(self, form, shown, most):
        with self.assertRaises(NoMore) as caught:
            projected(form, shown, most=most)
        self.assertEqual(caught.exception.rows, most)

    def test_the_first_name_that_isnt_there(self):
        form = (("b", "d"), ((B,),))
        self.refuse_name(form, ("a",), "a")
        self.refuse_name(form, ("a", "b", "c"), "a")
        self.refuse_name(form, ("b", "c", "e"), "c")
        self.refuse_name(form, ("b", "d", "e"), "e")
        self.refuse_name(((), ()), ("a",), "a")

    def test_ahead_of_all_else(self):
        self.refuse_name((("b",), ((B,),)), ("c",), "c", most=0)

    def test_a_name_of_the_form_may_stand_in_no_clause(self):
        self.assertEqual(projected((("a", "b"), ((B,),)), ("a",))[0], 2)

    def test_most(self):
        for seed, form in enumerate(mixed_forms(40)):
            shown = some_of(seed, form[0])
            many = len(plain_projected(form, shown))
            told = projected(form, shown, most=many)
            self.assertEqual(without_literals(told[1]), plain_projected(form, shown))
            self.assertEqual(projected(form, shown, most=many + 1)[0], told[0])
            for most in {0, many // 2, many - 1}:
                self.refuse_most(form, shown, most)

    def test_most_isnt_of_the_rows_within_a_never(self):
        form = (("b", "c"), tuple(sorted(NEVER)))
        self.assertGreater(len(plain_trail(form)), 1)
        self.assertEqual(projected(form, (), most=1)[0], 0)
        self.refuse_most(form, (), 0)
        more = (("a", "b", "c"), (*form[1][:1], *(tuple(sorted((A, *clause))) for clause in form[1][1:])))
        self.assertEqual(projected(more, ("a",), most=len(plain_projected(more, ("a",))))[0], 1)

    def test_a_never_of_more_rows_than_steps(self):
        form = form_of_threes(2, 70, 330)
        count, trail = projected(form, (), most=1)
        self.assertEqual((count, len(trail), trail[0][2][0]), (0, 1, "never"))
        self.assertGreater(len(trail[0][2][1]), 4000)
        self.assertEqual(trail[0][2][1], trail_of(form, most=10 ** 6))

    def test_most_left_out_is_steps(self):
        form = form_of_threes(100, 40, 90)
        with self.assertRaises(NoMore) as caught:
            projected(form, form[0])
        self.assertEqual(caught.exception.rows, 4000)

    def test_most_by_name_alone(self):
        with self.assertRaises(TypeError):
            projected(((), ()), (), 9)

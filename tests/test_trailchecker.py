"""Points 6, 25, 26: the checker of any thing as a TRAIL OF a FORM."""

import copy
import unittest

from tests.samples import all_small_forms, deep, mixed_forms, plain_models, strange_things
from waycircuits.errors import FormError, NoPaper
from waycircuits.trailchecker import lets_trail
from waycircuits.walking import trail_of

A, NOT_A, B, NOT_B, C = ("a", True), ("a", False), ("b", True), ("b", False), ("c", True)
D = ("d", True)
FREE, VOID = ((), 1, ("free",)), (((),), 0, ("void",))
UNIT_A, UNIT_B = (((A,),), 1, ("unit", A, 0)), (((B,),), 1, ("unit", B, 0))
EITHER = ((A, B),)
EITHER_ROW = (EITHER, 3, ("split", "a", 2, 0))
BOTH = ((A, B), (C, D))
TRAIL = (
    FREE, UNIT_A, UNIT_B, EITHER_ROW, (((D,),), 1, ("unit", D, 0)), (((C, D),), 3, ("split", "c", 4, 0)),
    (BOTH, 9, ("parts", (3, 5))))
FORM = (("a", "b", "c", "d"), BOTH)
NONE = ((), ())


class Checks(unittest.TestCase):
    def refuse(self, form, thing, word, at):
        before = copy.deepcopy(thing)
        with self.assertRaises(NoPaper) as caught:
            lets_trail(form, thing)
        self.assertEqual((caught.exception.word, caught.exception.at), (word, at), thing)
        self.assertIsInstance(caught.exception, FormError)
        self.assertEqual(thing, before)

    def refuse_row(self, row, word, ahead=(FREE, UNIT_A, UNIT_B)):
        """A row behind some good ones, of a FORM that the last row has, is refused."""
        self.refuse((("a", "b", "c", "d"), row[0]), (*ahead, row), word, len(ahead))


class Shapes(Checks):
    def test_no_tuple_of_one_thing_or_more(self):
        for thing in ((), [], [FREE], None, True, 0, "", "free", list(TRAIL)):
            self.refuse(NONE, thing, "shape", -1)

    def test_any_thing(self):
        for thing in strange_things():
            at = 0 if isinstance(thing, tuple) and thing else -1
            self.refuse(NONE, thing, "shape", at)

    def test_no_tuple_of_three(self):
        for row in (None, (), [], FREE[:2], (*FREE, 1), list(FREE), "abc", 3, True, deep(28)):
            self.refuse(NONE, (row,), "shape", 0)
            self.refuse(NONE, (FREE, row), "shape", 1)

    def test_no_clauses(self):
        for clauses in ([], None, (A,), ((B,), (A,)), ((A,), (A,)), (((("a", 1)),),), ((("a", 1),),), [(A,)], ([A],)):
            self.refuse(NONE, ((clauses, 1, ("free",)),), "shape", 0)

    def test_no_number_from_0_on(self):
        for count in (-1, True, False, None, "1", (1,), -(10 ** 59)):
            self.refuse(NONE, (((), count, ("free",)),), "shape", 0)

    def test_no_rule_by_kind(self):
        for rule in (
                (), None, "free", ["free"], ("Free",), ("free", 1), ("void", 0), ("void", ()), (1,), (None,), (("free",),),
                ("unit",), ("unit", A), ("unit", A, 0, 0), ("unit", ("a", 1), 0), ("unit", ["a", True], 0),
                ("unit", "a", 0), ("unit", A, True), ("unit", A, False), ("unit", A, None), ("unit", A, (0,)),
                ("unit", (A,), 0), ("parts",), ("parts", ()), ("parts", (0,)), ("parts", [0, 0]), ("parts", 0, 0),
                ("parts", (0, True)), ("parts", (False, 0)), ("parts", (0, None)), ("parts", (0, 0), 0), ("parts", "ab"),
                ("split", "a", 0), ("split", "a", 0, 0, 0), ("split", "a", (0, 0)), ("split", A, 0, 0),
                ("split", "A", 0, 0), ("split", 1, 0, 0), ("split", "a", True, 0), ("split", "a", 0, False),
                ("split", "a", None, 0), ("spilt", "a", 0, 0), ("part", (0, 0)), ("Unit", A, 0), ("model", ()), ("never", (FREE,))):
            self.refuse(NONE, (FREE, ((), 1, rule)), "shape", 1)

    def test_first_of_several(self):
        self.refuse(NONE, (FREE, None, (), None), "shape", 1)

    def test_ahead_of_all_else(self):
        bad_rows = (((), 1, ("unit", A, 5)), ((), 1, ("void",)), ((), 2, ("free",)))
        for bad in bad_rows:
            self.refuse(FORM, (bad, FREE, ((), 1, ("free", 0))), "shape", 2)


class Ahead(Checks):
    def test_of_no_row_ahead(self):
        for number in (3, 4, -1, -3, 10 ** 59, -(10 ** 59)):
            self.refuse_row((((A,),), 1, ("unit", A, number)), "ahead")
            self.refuse_row((EITHER, 3, ("split", "a", number, 0)), "ahead")
            self.refuse_row((EITHER, 3, ("split", "a", 2, number)), "ahead")
            self.refuse_row((((A,), (B,)), 1, ("parts", (1, number))), "ahead")
            self.refuse_row((((A,), (B,)), 1, ("parts", (1, 2, number))), "ahead")

    def test_itself_and_behind(self):
        self.refuse(NONE, (((), 1, ("unit", A, 0)),), "ahead", 0)
        self.refuse((("a",), ((A,),)), (UNIT_A, FREE), "ahead", 0)

    def test_ahead_of_rule_and_count(self):
        self.refuse_row((EITHER, 7, ("split", "z", 0, 3)), "ahead")
        self.refuse_row(((), 7, ("unit", A, 3)), "ahead")


class Rules(Checks):
    def test_void(self):
        for clauses in ((), ((A,),), EITHER):
            self.refuse_row((clauses, 0, ("void",)), "rule")

    def test_free(self):
        for clauses in (((),), ((A,),), EITHER):
            self.refuse_row((clauses, 1, ("free",)), "rule")

    def test_unit(self):
        for clauses, rule in (
                (EITHER, ("unit", A, 0)), (((A,),), ("unit", NOT_A, 0)), (((A,),), ("unit", B, 0)),
                ((), ("unit", A, 0)), (((A,),), ("unit", A, 1)), (((A,), (B,)), ("unit", A, 0)),
                (((A,), (B,)), ("unit", B, 2)), (((NOT_A,), (A,)), ("unit", A, 0))):
            self.refuse_row((clauses, 1, rule), "rule")

    def test_parts(self):
        for clauses, some in (
                (((A,), (B,)), (2, 1)), (((A,), (B,)), (1, 1)), (((A,), (B,)), (1, 2, 0)), (((A,),), (1, 0)),
                (EITHER, (1, 2)), ((), (0, 0)), (((A,), (B,), (C,)), (1, 2))):
            self.refuse_row((clauses, 1, ("parts", some)), "rule")

    def test_split(self):
        for clauses, rule in (
                (EITHER, ("split", "c", 2, 0)), (EITHER, ("split", "a", 0, 2)), (EITHER, ("split", "a", 2, 2)),
                (EITHER, ("split", "a", 0, 0)), (EITHER, ("split", "a", 1, 0)), ((), ("split", "a", 0, 0)),
                (((),), ("split", "a", 0, 0)), (EITHER, ("split", "b", 2, 0))):
            self.refuse_row((clauses, 3, rule), "rule")

    def test_ahead_of_count(self):
        self.refuse_row((((A,),), 8, ("unit", A, 1)), "rule")
        self.refuse_row((EITHER, 8, ("free",)), "rule")

    def test_rules_that_the_walk_would_not_choose(self):
        void_unit = (((), (A,)), 0, ("unit", A, 0))
        self.assertEqual(lets_trail((("a",), ((), (A,))), (VOID, void_unit)), 0)
        void_parts = (((), (A,)), 0, ("parts", (0, 2)))
        self.assertEqual(lets_trail((("a",), ((), (A,))), (VOID, FREE, (((A,),), 1, ("unit", A, 1)), void_parts)), 0)
        self.assertEqual(lets_trail((("a", "b"), EITHER), (FREE, UNIT_A, (EITHER, 3, ("split", "b", 1, 0)))), 3)
        self.assertEqual(lets_trail((("a",), ((A,),)), (FREE, VOID, (((A,),), 1, ("split", "a", 1, 0)))), 1)
        units = (FREE, UNIT_A, UNIT_B, (((A,), (B,)), 1, ("unit", B, 1)))
        self.assertEqual(lets_trail((("a", "b"), ((A,), (B,))), units), 1)
        parts = (FREE, UNIT_A, UNIT_B, (((A,), (B,)), 1, ("parts", (1, 2))))
        self.assertEqual(lets_trail((("a", "b"), ((A,), (B,))), parts), 1)


class Counts(Checks):
    def test_another_one(self):
        for row, good in (
                ((((),), 0, ("void",)), 0), (((), 0, ("free",)), 1), ((((A,),), 0, ("unit", A, 0)), 1),
                ((((A,), (A, B), (A, C)), 0, ("unit", A, 0)), 4), ((EITHER, 0, ("split", "a", 2, 0)), 3),
                ((((A,), (B,)), 0, ("parts", (1, 2))), 1)):
            clauses, _, rule = row
            thing = (FREE, UNIT_A, UNIT_B, (clauses, good, rule))
            self.assertEqual(lets_trail((("a", "b", "c"), clauses), thing) > 0, good > 0)
            for count in (good + 1, good + 2, good * 2 + 2, 10 ** 59):
                self.refuse_row((clauses, count, rule), "count")
            if good:
                self.refuse_row((clauses, good - 1, rule), "count")

    def test_lost_names_on_each_side(self):
        clauses = ((NOT_A, B), (A, C))
        ahead = (FREE, (((C,),), 1, ("unit", C, 0)), UNIT_B)
        thing = (*ahead, (clauses, 4, ("split", "a", 1, 2)))
        self.assertEqual(lets_trail((("a", "b", "c"), clauses), thing), 4)
        self.refuse_row((clauses, 2, ("split", "a", 1, 2)), "count", ahead)


class Forms(Checks):
    def test_last_row_has_others(self):
        self.refuse((("a", "b"), ((B,),)), (FREE, UNIT_A), "form", -1)
        self.refuse((("a",), ()), (FREE, UNIT_A), "form", -1)
        self.refuse(FORM, TRAIL[:-1], "form", -1)
        self.refuse(FORM, (*TRAIL, FREE), "form", -1)

    def test_behind_all(self):
        self.refuse((("b",), ((B,),)), (FREE, (((A,),), 3, ("unit", A, 0))), "count", 1)

    def test_row_by_row(self):
        good, bad_count = TRAIL[:3], (EITHER, 2, ("split", "a", 2, 0))
        self.refuse(FORM, (*good, bad_count, ((), 1, ("unit", A, 9))), "count", 3)
        self.refuse(FORM, (*good, ((), 1, ("unit", A, 9)), bad_count), "ahead", 3)
        self.refuse(FORM, (*good, (EITHER, 3, ("void",)), bad_count), "rule", 3)


class Lets(Checks):
    def test_trails(self):
        self.assertEqual(lets_trail(FORM, TRAIL), 9)
        self.assertEqual(lets_trail(NONE, (FREE,)), 1)
        self.assertEqual(lets_trail(((), ((),)), (VOID,)), 0)
        self.assertEqual(lets_trail(thing=(FREE,), form=(("a", "b"), ())), 4)
        self.assertEqual(lets_trail((("a",), ((), (A,))), ((((), (A,)), 0, ("void",)),)), 0)

    def test_names_in_no_clause_double(self):
        self.assertEqual(lets_trail((("a", "b", "c", "d", "e", "f"), BOTH), TRAIL), 36)

    def test_rows_that_no_other_needs_and_clauses_twice(self):
        twice = (FREE, VOID, FREE, (((C,),), 1, ("unit", C, 2)), *[
            (((A,),), 1, ("unit", A, number)) for number in (0, 2)])
        self.assertEqual(lets_trail((("a",), ((A,),)), twice), 1)
        self.assertEqual(lets_trail(FORM, (*TRAIL, TRAIL[-1])), 9)

    def test_truths_by_kind_count_as_no_numbers(self):
        self.refuse((("a",), ((A,),)), (FREE, (((A,),), True, ("unit", A, 0))), "shape", 1)
        self.refuse((("a",), ((A,),)), (FREE, (((A,),), 1, ("unit", A, False))), "shape", 1)

    def test_whatever_is_let_by_shows_the_count(self):
        for form in [*all_small_forms(), *mixed_forms(60)]:
            self.assertEqual(lets_trail(form, trail_of(form)), len(plain_models(form)))

    def test_turned_trails_are_refused_or_show_the_count(self):
        for form in mixed_forms(12):
            trail, wanted = trail_of(form), len(plain_models(form))
            for at, row in enumerate(trail):
                for thing in (trail[:at] + trail[at + 1:], (*trail[:at], (row[0], row[1] + 1, row[2]), *trail[at + 1:]),
                              trail[:at] + trail[at:][::-1], (*trail, row)):
                    try:
                        self.assertEqual(lets_trail(form, thing), wanted)
                    except NoPaper:
                        pass

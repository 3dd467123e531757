"""Points 32, 33, 35: the checker of any thing as a PROJECTED TRAIL OF a FORM by shown names."""

import copy
import unittest

from tests.samples import all_small_forms, deep, mixed_forms, plain_shown_rows, some_of, strange_things
from waycircuits.errors import FormError, LackError, NoName, NoPaper
from waycircuits.showchecker import lets_projected
from waycircuits.showing import projected
from waycircuits.trailchecker import lets_trail
from waycircuits.walking import trail_of

A, NOT_A, B, NOT_B, C = ("a", True), ("a", False), ("b", True), ("b", False), ("c", True)
D, Z = ("d", True), ("z", False)
FREE, VOID = ((), 1, ("free",)), (((),), 0, ("void",))
UNIT_A, UNIT_B = (((A,),), 1, ("unit", A, 0)), (((B,),), 1, ("unit", B, 0))
EITHER = ((A, B),)
NONE = ((), ())
# no truths of a and b meet all of these
AGAINST = tuple(sorted(((A, B), (A, NOT_B), (NOT_A, B), (NOT_A, NOT_B))))
AGAINST_TRAIL = trail_of((("a", "b"), AGAINST))
NEVER = (AGAINST, 0, ("never", AGAINST_TRAIL))
MODEL = (EITHER, 1, ("model", (A,)))


class Checks(unittest.TestCase):
    def refuse(self, form, shown, thing, word, at):
        before = copy.deepcopy(thing)
        with self.assertRaises(NoPaper) as caught:
            lets_projected(form, shown, thing)
        self.assertEqual((caught.exception.word, caught.exception.at), (word, at), thing)
        self.assertIsInstance(caught.exception, FormError)
        self.assertEqual(thing, before)

    def refuse_row(self, shown, row, word, ahead=(FREE, UNIT_A, UNIT_B)):
        """A row behind some good ones, of a FORM that the last row has, is refused."""
        self.refuse((("a", "b", "c", "d"), row[0]), shown, (*ahead, row), word, len(ahead))


class Names(Checks):
    def refuse_name(self, form, shown, thing, name):
        with self.assertRaises(NoName) as caught:
            lets_projected(form, shown, thing)
        self.assertEqual(caught.exception.name, name)
        self.assertIsInstance(caught.exception, LackError)

    def test_the_first_that_isnt_there(self):
        form = (("b", "d"), ())
        self.refuse_name(form, ("a", "b", "c"), (FREE,), "a")
        self.refuse_name(form, ("b", "c", "e"), (FREE,), "c")
        self.refuse_name(form, ("b", "d", "e"), (FREE,), "e")

    def test_ahead_of_all_else(self):
        for thing in [*strange_things(), (VOID,), (((), 3, ("free",)),)]:
            self.refuse_name((("b",), ()), ("a",), thing, "a")


class Shapes(Checks):
    def test_no_tuple_of_one_thing_or_more(self):
        for thing in ((), [], [FREE], None, True, 0, "", "model"):
            self.refuse(NONE, (), thing, "shape", -1)

    def test_any_thing(self):
        for thing in strange_things():
            self.refuse(NONE, (), thing, "shape", 0 if isinstance(thing, tuple) and thing else -1)

    def test_no_row_by_kind(self):
        for row in (None, (), FREE[:2], list(FREE), ([], 1, ("free",)), ((), True, ("free",)), ((), -1, ("free",))):
            self.refuse(NONE, (), (FREE, row), "shape", 1)

    def test_no_rule_by_kind(self):
        for rule in (
                (), ("model",), ("model", [A]), ("model", A), ("model", (A, A)), ("model", (B, A)), ("model", (NOT_A, A)),
                ("model", (("a", 1),)), ("model", None), ("model", (A,), ()), ("model", ((A,),)), ("model", "a"),
                ("never",), ("never", [VOID]), ("never", None), ("never", "void"), ("never", (VOID,), 0), ("never", True),
                ["model", (A,)], ["never", (VOID,)], ("modell", (A,)), (("model",), (A,)), "model", (1, (A,)),
                ("free", 0), ("void", ()), ("unit", A), ("unit", A, True), ("parts", (0,)), ("split", "a", 0), deep(20)):
            self.refuse(NONE, (), (FREE, ((), 1, rule)), "shape", 1)

    def test_by_kind_alone(self):
        # a "never" has any tuple by kind, a "model" LITERALS of whatever names
        for rule in (("never", ()), ("never", (None,)), ("never", deep(20)), ("never", ("void",))):
            self.refuse(NONE, (), (((), 0, rule),), "rule", 0)
        self.assertEqual(lets_projected(NONE, (), (((), 1, ("model", (A, Z))),)), 1)

    def test_ahead_of_all_else_row_by_row(self):
        for bad in (((), 1, ("unit", A, 5)), (EITHER, 1, ("split", "b", 0, 0)), ((), 2, ("free",))):
            self.refuse((("a", "b"), ()), ("a",), (bad, FREE, ((), 1, ("model", 0))), "shape", 2)


class Ahead(Checks):
    def test_of_no_row_ahead(self):
        for number in (3, 4, -1, 10 ** 59):
            self.refuse_row(("a",), (((A,),), 1, ("unit", A, number)), "ahead")
            self.refuse_row(("a",), (EITHER, 3, ("split", "a", number, 0)), "ahead")
            self.refuse_row(("a",), (EITHER, 3, ("split", "a", 2, number)), "ahead")
            self.refuse_row(("a",), (((A,), (B,)), 1, ("parts", (1, number))), "ahead")

    def test_ahead_of_shown(self):
        self.refuse_row(("a",), (EITHER, 3, ("split", "b", 3, 0)), "ahead")
        self.refuse_row((), (EITHER, 3, ("split", "c", 0, -1)), "ahead")


class Shown(Checks):
    def test_split_of_a_hidden_name(self):
        for shown in ((), ("a",), ("c", "d")):
            self.refuse_row(shown, (EITHER, 3, ("split", "b", 1, 0)), "shown")

    def test_split_of_a_strange_name(self):
        self.refuse_row(("a", "b"), (EITHER, 3, ("split", "z", 1, 0)), "shown")

    def test_model_and_never_with_a_shown_name(self):
        for shown in (("a",), ("b",), ("a", "b", "c")):
            self.refuse_row(shown, MODEL, "shown")
            self.refuse_row(shown, NEVER, "shown")

    def test_a_shown_name_in_no_clause_of_theirs(self):
        form = (("a", "b", "c"), EITHER)
        self.assertEqual(lets_projected(form, ("c",), (MODEL,)), 2)
        self.assertEqual(lets_projected((form[0], AGAINST), ("c",), (NEVER,)), 0)

    def test_ahead_of_rule_and_count(self):
        self.refuse_row(("a",), (EITHER, 7, ("split", "b", 0, 0)), "shown")
        self.refuse_row(("a",), (EITHER, 7, ("model", ())), "shown")
        self.refuse_row(("a",), (EITHER, 7, ("never", ())), "shown")

    def test_behind_the_row_ahead(self):
        bad_count, bad_split = ((), 3, ("free",)), (EITHER, 3, ("split", "b", 0, 0))
        self.refuse((("a", "b"), EITHER), ("a",), (bad_count, bad_split), "count", 0)


class Rules(Checks):
    def test_those_of_trails(self):
        for shown, row in (
                (("a",), ((), 0, ("void",))), (("a",), (EITHER, 0, ("void",))), (("a",), (((),), 1, ("free",))),
                (("a",), (EITHER, 1, ("unit", A, 0))), (("a",), (((A,),), 1, ("unit", A, 1))),
                (("a",), (((A,),), 1, ("unit", NOT_A, 0))), ((), (((A,), (B,)), 1, ("parts", (2, 1)))),
                ((), (((A,),), 1, ("parts", (1, 0)))), (("a",), (EITHER, 3, ("split", "a", 0, 2))),
                (("c",), (EITHER, 3, ("split", "c", 0, 0)))):
            self.refuse_row(shown, row, "rule")

    def test_model_some_clause_has_none(self):
        for clauses, literals in (
                (EITHER, ()), (EITHER, (C,)), (EITHER, (NOT_A,)), (EITHER, (NOT_A, NOT_B)), (((A,), (B,)), (A,)),
                (((),), ()), (((),), (A,)), (((), (A,)), (A,)), (((A,), (NOT_A,)), (A,)), (((A, B), (C, D)), (A, B))):
            self.refuse_row((), (tuple(sorted(clauses)), 1, ("model", literals)), "rule")

    def test_model_of_literals_of_strange_and_shown_names(self):
        form = (("a", "b", "c"), EITHER)
        for literals in ((A,), (B,), (NOT_A, B), (A, C), (A, Z), (B, ("c", False), ("y", True), Z)):
            self.assertEqual(lets_projected(form, ("c",), ((EITHER, 1, ("model", literals)),)), 2)
        self.assertEqual(lets_projected(form, (), (FREE, ((), 1, ("model", (A,))), MODEL)), 1)

    def test_never_of_another_trail(self):
        trails = ((), (FREE,), (VOID,), (FREE, UNIT_A), AGAINST_TRAIL[:-1], AGAINST_TRAIL[1:], (*AGAINST_TRAIL, VOID),
                  AGAINST_TRAIL[::-1], trail_of((("a", "b"), AGAINST[1:])), ("never", AGAINST_TRAIL))
        for trail in trails:
            self.refuse_row((), (AGAINST, 0, ("never", trail)), "rule")

    def test_never_of_a_trail_that_shows_another_number(self):
        form = (("a", "b"), EITHER)
        self.assertEqual(lets_trail(form, trail_of(form)), 3)
        self.refuse_row((), (EITHER, 0, ("never", trail_of(form))), "rule")
        self.refuse_row((), ((), 0, ("never", (FREE,))), "rule")

    def test_never_of_a_bent_trail(self):
        for at, (clauses, count, rule) in enumerate(AGAINST_TRAIL):
            for row in ((clauses, count + 1, rule), (clauses, count, ("free",)), (clauses, True, rule), (clauses, count)):
                bent = (*AGAINST_TRAIL[:at], row, *AGAINST_TRAIL[at + 1:])
                # True is no 1 here, though Python takes them for equal
                if repr(bent) != repr(AGAINST_TRAIL):
                    self.refuse_row((), (AGAINST, 0, ("never", bent)), "rule")

    def test_a_trail_within_a_never_knows_no_model_and_no_never(self):
        self.refuse_row((), (AGAINST, 0, ("never", (NEVER,))), "rule")

    def test_never_with_rows_that_no_other_needs(self):
        form = (("a", "b"), AGAINST)
        self.assertEqual(lets_projected(form, (), ((AGAINST, 0, ("never", AGAINST_TRAIL + AGAINST_TRAIL)),)), 0)
        self.assertEqual(lets_projected(((), ((),)), (), ((((),), 0, ("never", (VOID,))),)), 0)

    def test_ahead_of_count(self):
        self.refuse_row((), (EITHER, 8, ("model", ())), "rule")
        self.refuse_row((), (AGAINST, 8, ("never", ())), "rule")
        self.refuse_row(("a",), (EITHER, 8, ("free",)), "rule")


class Counts(Checks):
    def test_model_and_never(self):
        for count in (0, 2, 3, 10 ** 59):
            self.refuse_row((), (EITHER, count, ("model", (A,))), "count")
        for count in (1, 2, 10 ** 59):
            self.refuse_row((), (AGAINST, count, ("never", AGAINST_TRAIL)), "count")

    def test_a_name_lost_that_is_shown_or_hidden(self):
        clauses = ((A,), (A, B), (A, C))
        for shown, good in ((("a",), 1), (("b",), 2), (("a", "c"), 2), (("b", "c"), 4), ((), 1), (("d",), 1)):
            self.assertEqual(
                lets_projected((("a", "b", "c", "d"), clauses), shown, (FREE, (clauses, good, ("unit", A, 0)))),
                good * (2 if "d" in shown else 1))
            for count in {0, 1, 2, 3, 4, 8} - {good}:
                self.refuse_row(shown, (clauses, count, ("unit", A, 0)), "count")

    def test_split(self):
        for shown, good in ((("a",), 2), (("a", "b"), 3), (("a", "c"), 2)):
            thing = (FREE, UNIT_A, UNIT_B, (EITHER, good, ("split", "a", 2, 0)))
            self.assertEqual(lets_projected((("a", "b", "c"), EITHER), shown, thing), good * (2 if "c" in shown else 1))
            for count in {0, 1, 2, 3, 4} - {good}:
                self.refuse_row(shown, (EITHER, count, ("split", "a", 2, 0)), "count")

    def test_void_free_parts(self):
        self.refuse_row((), (((),), 1, ("void",)), "count")
        self.refuse_row((), ((), 0, ("free",)), "count")
        self.refuse_row((), (((A,), (B,)), 2, ("parts", (1, 2))), "count")


class Forms(Checks):
    def test_last_row_has_others(self):
        form = (("a", "b"), ((B,),))
        self.refuse(form, (), (FREE, UNIT_A), "form", -1)
        self.refuse(form, ("a", "b"), (FREE,), "form", -1)
        self.refuse(form, (), (FREE, UNIT_B, FREE), "form", -1)

    def test_behind_all(self):
        self.refuse((("a", "b"), ((B,),)), (), (FREE, (((A,),), 2, ("unit", A, 0))), "count", 1)

    def test_no_trail_of_other_names_is_asked(self):
        # clauses of names that the FORM hasn't are refused at the end alone
        self.refuse((("b",), ((B,),)), ("b",), (FREE, UNIT_A), "form", -1)


class Lets(Checks):
    def test_by_name(self):
        self.assertEqual(lets_projected(thing=(FREE,), shown=("b",), form=(("a", "b"), ())), 2)

    def test_shown_names_that_stand_in_no_clause(self):
        form = (("a", "b", "c", "d"), EITHER)
        self.assertEqual(lets_projected(form, ("c", "d"), (MODEL,)), 4)
        self.assertEqual(lets_projected(form, (), (MODEL,)), 1)

    def test_all_shown_trails_are_such(self):
        for form in [*all_small_forms(), *mixed_forms(40)]:
            self.assertEqual(lets_projected(form, form[0], trail_of(form)), lets_trail(form, trail_of(form)))

    def test_rows_that_the_walk_would_not_lay(self):
        # a hidden name by "unit" where "model" could stand, and "never" for "void"
        self.assertEqual(lets_projected((("a",), ((A,),)), (), (FREE, UNIT_A)), 1)
        both = (((A,), (B,)), 1, ("parts", (1, 2)))
        self.assertEqual(lets_projected((("a", "b"), both[0]), (), (FREE, UNIT_A, UNIT_B, both)), 1)
        self.assertEqual(lets_projected((("a", "b"), both[0]), ("a",), (FREE, UNIT_A, UNIT_B, both)), 1)

    def test_turned_ones_are_refused_or_show_the_number(self):
        for seed, form in enumerate(mixed_forms(25)):
            shown = some_of(seed, form[0])
            wanted = len(plain_shown_rows(form, shown))
            trail = projected(form, shown)[1]
            for at, (clauses, count, rule) in enumerate(trail):
                turned = [(clauses, count + 1, rule), (clauses, 0, rule), (clauses, count, ("model", ())),
                          (clauses, 0, ("never", trail)), (clauses, count * 2, rule)]
                things = [(*trail[:at], row, *trail[at + 1:]) for row in turned]
                for thing in [trail[:at] + trail[at + 1:], (*trail, trail[at]), trail[:at] + trail[at:][::-1], *things]:
                    try:
                        self.assertEqual(lets_projected(form, shown, thing), wanted)
                    except NoPaper:
                        pass

    def test_by_other_shown_names_refused_or_right(self):
        for seed, form in enumerate(mixed_forms(40)):
            trail = projected(form, some_of(seed, form[0]))[1]
            for other in range(4):
                shown = some_of(seed * 7 + other, form[0])
                try:
                    self.assertEqual(lets_projected(form, shown, trail), len(plain_shown_rows(form, shown)))
                except NoPaper:
                    pass

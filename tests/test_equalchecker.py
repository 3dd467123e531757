"""Point 52: the checker of any thing as a TRAIL that shows that a CIRCUIT EQUALS a FORM."""

import copy
import unittest

from tests.circuit_samples import NAMES, built_circuits, chain_circuit, plain_ways
from tests.samples import all_small_forms, mixed_form, mixed_forms, plain_models, strange_things
from waycircuits.compiling import compiled
from waycircuits.equalchecker import lets_equal
from waycircuits.errors import FormError, NoPaper
from waycircuits.walking import trail_of

A, NOT_A, B, NOT_B, C = ("a", True), ("a", False), ("b", True), ("b", False), ("c", True)
TRUE, FALSE = ("true",), ("false",)
FREE, VOID = ((), 1, ("free",)), (((),), 0, ("void",))
EITHER = (("a", "b"), ((A, B),))
TRAIL = trail_of(EITHER)
IS_A = ("literal", "a", True)
IS_B = ("literal", "b", True)


class Checks(unittest.TestCase):
    def refuse(self, form, circuit, thing, word, at):
        before = copy.deepcopy(thing)
        with self.assertRaises(NoPaper) as caught:
            lets_equal(form, circuit, thing)
        self.assertEqual((caught.exception.word, caught.exception.at), (word, at), thing)
        self.assertIsInstance(caught.exception, FormError)
        self.assertEqual(thing, before)

    def test_equal(self):
        self.assertIs(lets_equal(EITHER, compiled(EITHER), TRAIL), True)
        self.assertIs(lets_equal(EITHER, (("a", "b"), (TRUE, IS_A, ("split", "b", 1, 0))), TRAIL), True)
        self.assertIs(lets_equal(thing=(FREE,), circuit=((), (TRUE,)), form=((), ())), True)
        self.assertIs(lets_equal(((), ((),)), ((), (FALSE,)), (VOID,)), True)
        self.assertIs(lets_equal(((), ()), chain_circuit(), (FREE,)), True)

    def test_other_trails_of_it(self):
        other = (FREE, VOID, (((A,),), 1, ("unit", A, 0)), (EITHER[1], 3, ("split", "b", 2, 0)))
        self.assertIs(lets_equal(EITHER, compiled(EITHER), other), True)

    def test_those_of_compiled_ones(self):
        for form in [*all_small_forms(), *mixed_forms(60)]:
            self.assertIs(lets_equal(form, compiled(form), trail_of(form)), True)

    def test_names(self):
        circuit = compiled(EITHER)
        for names in (("a",), ("a", "b", "c"), ("a", "c"), ()):
            clauses = EITHER[1] if set("ab") <= set(names) else ()
            self.refuse((names, clauses), circuit, trail_of((names, clauses)), "names", -1)
        self.refuse((("a",), ((), (A,))), (("b",), (TRUE,)), None, "names", -1)

    def test_a_clause_that_some_model_doesnt_meet(self):
        form = (("a", "b"), ((A,), (A, B), (B,)))
        circuits = {
            0: (TRUE,), 1: (IS_A, FALSE), 2: (IS_A,)}
        self.refuse(form, (form[0], circuits[0]), trail_of(form), "clause", 0)
        self.refuse(form, (form[0], circuits[2]), trail_of(form), "clause", 2)
        self.refuse(form, (form[0], (IS_B,)), trail_of(form), "clause", 0)
        self.refuse(form, (form[0], circuits[1]), trail_of(form), "count", -1)
        self.refuse((("a", "b"), ((A, B), (NOT_A, NOT_B))), (("a", "b"), (IS_A,)), (), "clause", 1)

    def test_a_clause_of_none(self):
        form = (("a",), ((),))
        self.refuse(form, (("a",), (IS_A,)), (VOID,), "clause", 0)
        self.assertIs(lets_equal(form, (("a",), (FALSE,)), (VOID,)), True)

    def test_ahead_of_the_trail(self):
        for thing in strange_things():
            self.refuse(EITHER, (("a", "b"), (TRUE,)), thing, "clause", 0)
            self.refuse(EITHER, (("a",), (IS_A,)), thing, "names", -1)

    def test_what_the_checker_of_trails_refuses(self):
        circuit = compiled(EITHER)
        for thing in strange_things():
            self.refuse(EITHER, circuit, thing, "shape", 0 if isinstance(thing, tuple) and thing else -1)
        self.refuse(EITHER, circuit, (), "shape", -1)
        self.refuse(EITHER, circuit, (*TRAIL[:-1], (EITHER[1], 3, ("split", "a", 1, 9))), "ahead", len(TRAIL) - 1)
        self.refuse(EITHER, circuit, (*TRAIL[:-1], (EITHER[1], 3, ("split", "a", 0, 0))), "rule", len(TRAIL) - 1)
        self.refuse(EITHER, circuit, (*TRAIL[:-1], (EITHER[1], 4, TRAIL[-1][2])), "count", len(TRAIL) - 1)
        self.refuse(EITHER, circuit, TRAIL[:-1], "form", -1)

    def test_a_trail_of_another_form(self):
        for other in ((("a", "b"), ()), (("a", "b"), ((A,),)), (("a", "b"), ((NOT_A, B),))):
            self.refuse(EITHER, compiled(EITHER), trail_of(other), "form", -1)

    def test_one_that_shows_another_number(self):
        for nodes in ((IS_A,), (FALSE,), (IS_B,), (IS_A, IS_B, ("and", (0, 1)))):
            self.refuse(EITHER, (("a", "b"), nodes), TRAIL, "count", -1)
        self.refuse((("a", "b", "c"), EITHER[1]), (("a", "b", "c"), (IS_A,)), TRAIL, "count", -1)

    def test_nodes_that_arent_reached(self):
        wrong = (IS_A, ("and", (0, 0)), ("split", "a", 0, 0), *[
            (node[0], *[tuple(part + 3 for part in inner) if isinstance(inner, tuple) else inner + 3 if isinstance(
                inner, int) and not isinstance(inner, bool) else inner for inner in node[1:]])
            for node in compiled(EITHER)[1]])
        self.assertEqual(len(plain_ways((EITHER[0], wrong))), 3)
        self.assertIs(lets_equal(EITHER, (EITHER[0], wrong), TRAIL), True)

    def test_of_many(self):
        words = set()
        forms = [mixed_form(seed, names=NAMES, most=most) for seed in range(40) for most in (0, 2, 5)]
        for circuit in [*built_circuits(25), *map(compiled, forms[::5])]:
            ways = plain_ways(circuit)
            for form in forms:
                models = [tuple(row.values()) for row in plain_models(form)]
                astray = [number for number, clause in enumerate(form[1]) if any(
                    not any(way[NAMES.index(name)] is truth for name, truth in clause) for way in ways)]
                if astray:
                    words.add("clause")
                    self.refuse(form, circuit, trail_of(form), "clause", astray[0])
                elif ways != models:
                    words.add("count")
                    self.refuse(form, circuit, trail_of(form), "count", -1)
                else:
                    words.add("equal")
                    self.assertIs(lets_equal(form, circuit, trail_of(form)), True)
        self.assertEqual(words, {"clause", "count", "equal"})

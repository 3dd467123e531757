"""Point 53: "equal" with a TRAIL, or a ROW that is a MODEL of just one of both."""

import copy
import unittest

from tests.circuit_samples import NAMES, built_circuits, plain_ways
from tests.samples import form_of_threes, mixed_form, mixed_forms, plain_models, words_of
from waycircuits.circuits import met_by
from waycircuits.compiling import compiled
from waycircuits.equal import equal_or_row
from waycircuits.equalchecker import lets_equal
from waycircuits.forms import met
from waycircuits.putting import form_put
from waycircuits.walking import trail_of

A, B = ("a", True), ("b", True)
TRUE, FALSE = ("true",), ("false",)
EITHER = (("a", "b"), ((A, B),))


class Told(unittest.TestCase):
    def check(self, form, circuit):
        before = copy.deepcopy((form, circuit))
        told = equal_or_row(form, circuit)
        self.assertEqual((form, circuit), before)
        self.assertIs(type(told), tuple)
        word, thing = told
        if word == "equal":
            self.assertIs(lets_equal(form, circuit, thing), True)
        else:
            self.assertEqual(word, "row")
            self.assertEqual([type(truth) for truth in thing], [bool] * len(form[0]))
            self.assertIs(met(form, thing), not met_by(circuit, thing))
        return word

    def test_equal(self):
        self.assertEqual(equal_or_row(EITHER, compiled(EITHER))[0], "equal")
        self.assertEqual(self.check(EITHER, compiled(EITHER)), "equal")
        self.assertEqual(self.check(((), ()), ((), (TRUE,))), "equal")
        self.assertEqual(self.check(((), ((),)), ((), (FALSE,))), "equal")
        self.assertEqual(equal_or_row(circuit=((), (TRUE,)), form=((), ())), ("equal", (((), 1, ("free",)),)))

    def test_row_of_the_circuit_alone(self):
        self.assertEqual(equal_or_row(EITHER, (("a", "b"), (TRUE,))), ("row", (False, False)))
        self.assertEqual(equal_or_row(((), ((),)), ((), (TRUE,))), ("row", ()))

    def test_row_of_the_form_alone(self):
        self.assertEqual(equal_or_row(((), ()), ((), (FALSE,))), ("row", ()))
        circuit = (("a", "b"), (("literal", "a", True),))
        self.assertEqual(equal_or_row(EITHER, circuit), ("row", (False, True)))
        self.assertEqual(self.check((("a", "b"), ()), (("a", "b"), (FALSE,))), "row")

    def test_as_many_models_of_both(self):
        for truth in (False, True):
            form, circuit = (("a",), ((("a", truth),),)), (("a",), (("literal", "a", not truth),))
            self.assertEqual(self.check(form, circuit), "row")
            self.assertEqual(self.check((("a", "b"), form[1]), (("a", "b"), circuit[1])), "row")

    def test_of_many(self):
        words = []
        for seed, circuit in enumerate(built_circuits(60)):
            for other in range(6):
                form = mixed_form(seed * 6 + other, names=NAMES, most=(9, 2, 4)[other // 2])
                words.append(self.check(form, circuit))
                same = plain_ways(circuit) == [tuple(row.values()) for row in plain_models(form)]
                self.assertEqual(words[-1], "equal" if same else "row")
        self.assertIn("row", words)

    def test_of_compiled_ones(self):
        for form in mixed_forms(60):
            self.assertEqual(self.check(form, compiled(form)), "equal")

    def test_of_forms_with_a_clause_more_and_less(self):
        words = set()
        for form in mixed_forms(60):
            for at in range(len(form[1])):
                fewer = (form[0], form[1][:at] + form[1][at + 1:])
                words.add(self.check(fewer, compiled(form)))
                words.add(self.check(form, compiled(fewer)))
        self.assertEqual(words, {"equal", "row"})

    def test_hundreds_of_names(self):
        names = words_of(120)
        clauses = tuple(((one, False), (other, True)) for one, other in zip(names, names[1:]))
        form, more = (names, clauses), (names, clauses[1:])
        self.assertEqual(self.check(form, compiled(form)), "equal")
        self.assertEqual(self.check(form, compiled(more)), "row")
        self.assertEqual(self.check(more, compiled(form)), "row")

    def test_however_many_rows(self):
        form = form_of_threes(100, 40, 90)
        word, trail = equal_or_row(form, compiled(form))
        self.assertEqual(word, "equal")
        self.assertGreater(len(trail), 4000)
        self.assertEqual(trail[-1][:2], trail_of(form, most=10 ** 6)[-1][:2])

    def test_one_way_fewer(self):
        for form in mixed_forms(30, names=NAMES):
            left = form_put(form, ("a", True))
            circuit = compiled(left)
            both = (form[0], circuit[1])
            self.check(form, both)

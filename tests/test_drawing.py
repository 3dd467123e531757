"""Point 62: the REDUCED DIAGRAM of a FORM, of a CIRCUIT, along an ORDER."""

import copy
import unittest

from tests.circuit_samples import NAMES, any_circuit, built_circuits, chain_circuit, plain_ways, some_circuits
from tests.diagram_samples import ORDERS, all_orders, kinds, plain_diagram, plain_met_rows
from tests.samples import all_small_forms, form_of_threes, mixed_forms, plain_models, words_of
from waycircuits.compiling import compiled
from waycircuits.diagrams import diagram_count, is_diagram
from waycircuits.drawing import diagram_from, diagram_of
from waycircuits.forming import formed
from waycircuits.rows import count_by_rows

TRUE, FALSE = ("true",), ("false",)
A, B = ("literal", "a", True), ("literal", "b", True)


class Case(unittest.TestCase):
    def check(self, told, order, ways):
        self.assertIs(is_diagram(told), True)
        wanted = plain_diagram(order, set(ways))
        self.assertEqual(told[0], wanted[0])
        self.assertEqual(kinds(told[1]), kinds(wanted[1]))

    def models(self, form):
        return [tuple(row.values()) for row in plain_models(form)]


class OfForms(Case):
    def test_small_ones(self):
        form = (("a", "b"), ((("a", True), ("b", True)),))
        self.assertEqual(diagram_of(form), (("a", "b"), (("b", False, True), ("a", 0, True))))
        self.assertEqual(diagram_of(form, order=("b", "a")), (("b", "a"), (("a", False, True), ("b", 0, True))))
        self.assertEqual(kinds(diagram_of((("a",), ((("a", False),),)))[1]), kinds((("a", True, False),)))
        for truth, clauses in ((True, ()), (False, ((),))):
            self.assertEqual(diagram_of(((), clauses)), ((), truth))
            self.assertIs(diagram_of((("a", "b"), clauses))[1], truth)
            self.assertEqual(diagram_of(order=("b", "a"), form=(("a", "b"), clauses)), (("b", "a"), truth))

    def test_all_small_forms(self):
        for form in all_small_forms():
            for order in all_orders(form[0]):
                self.check(diagram_of(form, order=order), order, self.models(form))

    def test_of_many(self):
        for form in mixed_forms(60, names=NAMES):
            before = copy.deepcopy(form)
            for order in ORDERS:
                self.check(diagram_of(form, order=order), order, self.models(form))
            self.assertEqual(form, before)

    def test_no_order_is_the_rising_one(self):
        for form in mixed_forms(20):
            self.assertEqual(kinds(diagram_of(form)[1]), kinds(diagram_of(form, order=form[0])[1]))
            self.assertEqual(diagram_of(form, order=())[0], form[0])

    def test_names_that_stand_in_no_clause(self):
        for order in all_orders(("a", "m", "z")):
            told = diagram_of((("a", "m", "z"), ((("m", True),),)), order=order)
            self.assertEqual(told, (order, (("m", False, True),)))

    def test_twelve_names(self):
        form = form_of_threes(5, 12, 24)
        for order in (form[0], form[0][::-1], form[0][::2] + form[0][1::2]):
            told = diagram_of(form, order=order)
            self.assertIs(is_diagram(told), True)
            self.assertEqual(plain_met_rows(told), set(self.models(form)))

    def test_told_forms_of_many_names(self):
        form, _ = formed(("alike", ("and", (("name", "a"), ("name", "b"))), ("or", (("name", "c"), ("not", ("name", "a"))))))
        told = diagram_of(form)
        self.assertIs(is_diagram(told), True)
        self.assertEqual(diagram_count(told), count_by_rows(form))

    def test_hundreds_of_names(self):
        names = words_of(200)
        form = (names, tuple(((one, False), (other, True)) for one, other in zip(names, names[1:])))
        told = diagram_of(form)
        self.assertIs(is_diagram(told), True)
        self.assertEqual(diagram_count(told), 201)

    def test_order_by_name_alone(self):
        with self.assertRaises(TypeError):
            diagram_of((("a",), ()), ("a",))
        with self.assertRaises(TypeError):
            diagram_from((("a",), (TRUE,)), ("a",))


class FromCircuits(Case):
    def test_small_ones(self):
        self.assertEqual(diagram_from((("a", "b"), (A,))), (("a", "b"), (("a", False, True),)))
        self.assertEqual(diagram_from((("a", "b"), (A, B, ("and", (0, 1)))), order=("b", "a")),
                         (("b", "a"), (("a", False, True), ("b", False, 0))))
        self.assertIs(diagram_from(((), (TRUE,)))[1], True)
        self.assertIs(diagram_from(order=("b", "a"), circuit=(("a", "b"), (FALSE,)))[1], False)
        self.assertIs(diagram_from(((), (("or", (), ()),)))[1], False)
        self.assertIs(diagram_from(((), (("and", ()),)))[1], True)

    def test_of_many(self):
        for circuit in some_circuits():
            before = copy.deepcopy(circuit)
            for order in (circuit[0], circuit[0][::-1], circuit[0][1::2] + circuit[0][::2]):
                self.check(diagram_from(circuit, order=order), order, plain_ways(circuit))
            self.assertEqual(circuit, before)

    def test_no_order_is_the_rising_one(self):
        for circuit in built_circuits(20):
            self.check(diagram_from(circuit), circuit[0], plain_ways(circuit))

    def test_nodes_that_arent_reached(self):
        for seed in range(60):
            names, nodes = any_circuit(seed)
            self.assertEqual(diagram_from((names, (*nodes, B))), (names, (("b", False, True),)))

    def test_like_models_one_diagram(self):
        for form in mixed_forms(40, names=NAMES):
            for order in ORDERS:
                told = diagram_from(compiled(form), order=order)
                self.assertEqual(kinds(told[1]), kinds(diagram_of(form, order=order)[1]))

    def test_chain(self):
        self.assertEqual(diagram_from(chain_circuit()), ((), True))
        self.assertEqual(diagram_from(chain_circuit(FALSE)), ((), False))

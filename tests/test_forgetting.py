"""Points 58, 59: CIRCUITS TURNED, FORGOTTEN."""

import copy
import unittest

from tests.circuit_samples import (
    NAMES, any_circuit, built_circuit, chain_circuit, plain_turned, plain_unparted, plain_ways, some_circuits, well_built)
from tests.samples import mixed_forms, some_of, words_of
from waycircuits.boundchecker import lets_heaviest
from waycircuits.casechecker import lets_parted
from waycircuits.circuits import is_circuit, is_decomposed
from waycircuits.compiling import compiled
from waycircuits.conditioning import conditioned
from waycircuits.counting import circuit_count
from waycircuits.errors import FormError, LackError, NoName, NoParting
from waycircuits.extremes import heaviest
from waycircuits.forgetting import forgotten
from waycircuits.forming import formed
from waycircuits.rows import count_by_rows
from waycircuits.sentences import sentence_names
from waycircuits.showing import projected

TRUE, FALSE = ("true",), ("false",)
A, NOT_A, B, NOT_B = ("literal", "a", True), ("literal", "a", False), ("literal", "b", True), ("literal", "b", False)
BY_A = ("case", "a", ("out", 0), ("out", 1))


class Forgotten(unittest.TestCase):
    def check(self, circuit, names):
        """What is told, or refused, is right; tells whether it was refused."""
        before = copy.deepcopy(circuit)
        wanted = plain_unparted(plain_turned(circuit, names))
        try:
            told = forgotten(circuit, names)
        except NoParting as caught:
            self.assertIsNotNone(wanted)
            self.assertEqual(caught.node, wanted[0])
            self.assertIn(caught.row, wanted[1])
            self.assertEqual([type(truth) for truth in caught.row], [bool] * (len(circuit[0]) - len(names)))
            self.assertIsInstance(caught, FormError)
            return True
        self.assertEqual(circuit, before)
        self.assertIsNone(wanted)
        self.assertTrue(well_built(told))
        self.assertEqual(told[0], tuple(name for name in circuit[0] if name not in names))
        left = {tuple(truth for name, truth in zip(circuit[0], way) if name not in names) for way in plain_ways(circuit)}
        self.assertEqual(plain_ways(told), sorted(left))
        return False

    def refuse(self, circuit, names, node, *rows):
        with self.assertRaises(NoParting) as caught:
            forgotten(circuit, names)
        self.assertEqual(caught.exception.node, node)
        self.assertIn(caught.exception.row, rows)
        self.assertIs(self.check(circuit, names), True)

    def test_a_literal(self):
        self.assertIs(self.check((("a", "b"), (A, B, ("and", (0, 1)))), ("a",)), False)
        self.assertEqual(plain_ways(forgotten((("a",), (A,)), ("a",))), [()])
        self.assertEqual(plain_ways(forgotten((("a",), (FALSE,)), ("a",))), [])

    def test_a_split_whose_sides_are_apart(self):
        circuit = (("a", "b"), (B, NOT_B, ("split", "a", 0, 1)))
        self.assertIs(self.check(circuit, ("a",)), False)
        self.assertIs(self.check(circuit, ("b",)), False)
        self.assertIs(self.check((("a", "b"), (B, FALSE, ("split", "a", 0, 1))), ("a",)), False)

    def test_a_split_whose_sides_arent(self):
        self.refuse((("a", "b"), (B, TRUE, ("split", "a", 0, 1))), ("a",), 2, (True,))
        self.refuse((("a", "b"), (B, TRUE, ("split", "a", 0, 1))), ("a", "b"), 2, ())
        self.refuse((("a",), (TRUE, ("split", "a", 0, 0))), ("a",), 1, ())

    def test_one_node_that_stands_twice(self):
        self.refuse((("a", "b"), (B, ("split", "a", 0, 0))), ("a",), 1, (True,))
        self.assertIs(self.check((("a", "b"), (FALSE, ("split", "a", 0, 0))), ("a",)), False)
        self.assertIs(self.check((("a", "b"), (FALSE, ("or", (0, 0, 0), (BY_A,) * 3))), ("a",)), False)

    def test_an_or_whose_nodes_were_apart_by_the_name(self):
        circuit = (("a", "b"), (A, NOT_A, ("or", (0, 1), (BY_A,))))
        self.refuse(circuit, ("a",), 2, (False,), (True,))
        self.assertIs(self.check(circuit, ("b",)), False)
        both = (("a", "b"), (A, NOT_A, B, NOT_B, ("and", (0, 2)), ("and", (1, 3)), ("or", (4, 5), (BY_A,))))
        self.assertIs(self.check(both, ("a",)), False)
        self.assertIs(self.check(both, ("b",)), False)
        self.refuse(both, ("a", "b"), 6, ())

    def test_the_least_or_that_is_reached(self):
        nodes = (TRUE, ("split", "a", 0, 0), ("split", "a", 0, 0), ("and", (2,)))
        self.refuse((("a", "b"), nodes), ("a",), 2, (False,), (True,))
        more = (TRUE, B, ("split", "a", 1, 0), ("split", "a", 0, 0), ("split", "c", 3, 2))
        self.refuse((("a", "b", "c"), more), ("a",), 2, (True, False), (True, True))
        self.refuse((("a", "b", "c"), more), ("a", "c"), 2, (True,))
        self.refuse((("a", "b", "c"), more), ("c",), 4, (False, False), (False, True), (True, True))

    def test_reached_alone(self):
        circuit = (("a", "b"), (TRUE, ("split", "a", 0, 0), ("or", (0, 0), (("out", 0),)), B))
        self.assertIs(self.check(circuit, ("a",)), False)
        for seed in range(150):
            names, nodes = any_circuit(seed)
            self.assertIs(self.check((names, (*nodes, B)), some_of(seed, names)), False)

    def test_of_many(self):
        told = [self.check(circuit, some_of(seed * 2 + more, circuit[0]))
                for seed, circuit in enumerate(some_circuits()) for more in range(2)]
        self.assertEqual(set(told), {True, False})

    def test_no_names_is_never_refused(self):
        for circuit in some_circuits():
            self.assertIs(self.check(circuit, ()), False)

    def test_all_names(self):
        told = [self.check(circuit, circuit[0]) for circuit in some_circuits()]
        self.assertEqual(set(told), {True, False})
        self.assertEqual(circuit_count(forgotten((("a", "b"), (A, B, ("and", (0, 1)))), ("a", "b"))), 1)

    def test_another_circuit_of_the_same_models(self):
        self.refuse((("a",), (TRUE, ("split", "a", 0, 0))), ("a",), 1, ())
        self.assertIs(self.check((("a",), (TRUE,)), ("a",)), False)

    def test_helpers_forgotten(self):
        for sentence in (
                ("alike", ("name", "a"), ("and", (("name", "b"), ("not", ("name", "c"))))),
                ("or", (("and", (("name", "a"), ("name", "b"))), ("alike", ("name", "c"), ("name", "d")))),
                ("and", (("or", (("name", "a"), ("name", "b"))), ("not", ("and", (("name", "b"), ("name", "c"))))))):
            form, _ = formed(sentence)
            names = sentence_names(sentence)
            helpers = tuple(name for name in form[0] if name not in names)
            told = forgotten(compiled(form), helpers)
            self.assertTrue(well_built(told))
            self.assertEqual(circuit_count(told), count_by_rows(form))
            self.assertEqual(circuit_count(told), projected(form, names)[0])

    def test_it_counts_as_shown_names_do(self):
        for seed, form in enumerate(mixed_forms(120)):
            names = some_of(seed, form[0])
            try:
                told = forgotten(compiled(form), names)
            except NoParting:
                continue
            self.assertEqual(circuit_count(told), projected(form, told[0])[0])

    def test_may_be_handed_in_again(self):
        for seed in range(60):
            circuit = built_circuit(seed)
            try:
                told = forgotten(circuit, ("b",))
            except NoParting:
                continue
            self.assertIs(is_circuit(told), True)
            self.assertIs(is_decomposed(told), True)
            self.assertIs(lets_parted(told), True)
            self.assertEqual(circuit_count(told), len(plain_ways(told)))
            self.assertTrue(well_built(conditioned(told, (("c", True),))))
            if circuit_count(told):
                paper = heaviest(told, ())
                self.assertEqual(lets_heaviest(told, (), paper), paper[0])
            self.check(told, ("a", "e"))

    def test_chain(self):
        self.assertIs(self.check(chain_circuit(), ()), False)

    def test_hundreds_of_names(self):
        names = words_of(200)
        form = (names, tuple(sorted(
            clause for one, other in zip(names, names[1:])
            for clause in (((one, False), (other, True)), ((one, True), (other, False))))))
        told = forgotten(compiled(form), names[1:-1])
        self.assertIs(lets_parted(told), True)
        self.assertEqual((told[0], circuit_count(told)), ((names[0], names[-1]), 2))

    def test_no_name(self):
        circuit = (("b", "d"), (TRUE, ("split", "b", 0, 0)))
        for names, name in ((("a",), "a"), (("a", "c"), "a"), (("b", "c", "e"), "c"), (("b", "d", "e"), "e")):
            with self.assertRaises(NoName) as caught:
                forgotten(circuit, names)
            self.assertEqual(caught.exception.name, name)
            self.assertIsInstance(caught.exception, LackError)

    def test_by_name(self):
        self.assertEqual(forgotten(names=(), circuit=(NAMES, (TRUE,))), (NAMES, (TRUE,)))

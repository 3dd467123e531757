"""Points 48, 49: COUNTS of a CIRCUIT, and its WEIGHT."""

import copy
import unittest
from fractions import Fraction

from tests.circuit_samples import (
    FREES, WEIGHTS, as_pair, chain_circuit, plain_weight_of, plain_ways, some_circuits, well_built)
from tests.samples import form_of_threes, mixed_forms, words_of
from waycircuits.compiling import compiled
from waycircuits.counting import circuit_count, circuit_literals, circuit_trues, weighed
from waycircuits.fractions import NOUGHT, ONE
from waycircuits.rows import count_by_rows, count_by_trues
from waycircuits.walking import counted
from waycircuits.weights import weigh_by_rows

TRUE, FALSE = ("true",), ("false",)
A, NOT_A, B = ("literal", "a", True), ("literal", "a", False), ("literal", "b", True)
BY_A = ("case", "a", ("out", 0), ("out", 1))


def literal_counts(names, ways):
    return tuple(
        ((name, truth), sum(way[at] is truth for way in ways)) for at, name in enumerate(names) for truth in (False, True))


class Samples(unittest.TestCase):
    def test_they_are_well_built(self):
        circuits = some_circuits()
        for circuit in circuits:
            self.assertTrue(well_built(circuit))
        self.assertTrue(any(not plain_ways(circuit) for circuit in circuits))


class Counts(unittest.TestCase):
    def check(self, circuit, count, trues, literals):
        told = (circuit_count(circuit), circuit_trues(circuit), circuit_literals(circuit))
        self.assertEqual(told, (count, trues, literals))
        self.assertEqual([type(thing) for thing in told], [int, tuple, tuple])

    def test_true_and_false(self):
        self.check(((), (TRUE,)), 1, (1,), ())
        self.check(((), (FALSE,)), 0, (0,), ())
        self.check((("a",), (TRUE,)), 2, (1, 1), ((("a", False), 1), (("a", True), 1)))
        self.check((("a",), (FALSE,)), 0, (0, 0), ((("a", False), 0), (("a", True), 0)))

    def test_names_that_stand_in_no_node(self):
        self.check((("a", "b"), (A,)), 2, (0, 1, 1), (
            (("a", False), 0), (("a", True), 2), (("b", False), 1), (("b", True), 1)))

    def test_sides_that_have_not_the_same_names(self):
        split = (("a", "b"), (TRUE, B, ("split", "a", 0, 1)))
        self.check(split, 3, (1, 1, 1), ((("a", False), 2), (("a", True), 1), (("b", False), 1), (("b", True), 2)))
        either = (("a", "b"), (A, NOT_A, B, ("and", (1, 2)), ("or", (0, 3), (("case", "a", ("out", 0), ("out", 1)),))))
        self.check(either, 3, (0, 2, 1), ((("a", False), 1), (("a", True), 2), (("b", False), 1), (("b", True), 2)))

    def test_nodes_that_arent_reached(self):
        # neither DECOMPOSED nor PARTED, but not REACHED
        wrong = (A, ("and", (0, 0)), ("split", "a", 0, 1), ("or", (0, 0), (("out", 0),)), B)
        self.check((("a", "b"), wrong), 2, (0, 1, 1), (
            (("a", False), 1), (("a", True), 1), (("b", False), 0), (("b", True), 2)))

    def test_a_node_that_several_come_to(self):
        shared = (B, ("split", "a", 0, 0), ("literal", "c", True), ("split", "d", 0, 1), ("and", (2, 3)))
        circuit = (("a", "b", "c", "d"), shared)
        self.assertEqual(circuit_count(circuit), 4)
        self.assertEqual(circuit_literals(circuit), literal_counts(circuit[0], plain_ways(circuit)))

    def test_of_many(self):
        for circuit in some_circuits():
            names, ways = circuit[0], plain_ways(circuit)
            trues = tuple(sum(sum(way) == many for way in ways) for many in range(len(names) + 1))
            before = copy.deepcopy(circuit)
            self.check(circuit, len(ways), trues, literal_counts(names, ways))
            self.assertEqual(circuit, before)

    def test_of_compiled_ones(self):
        for form in mixed_forms(60):
            self.assertEqual(circuit_count(compiled(form)), count_by_rows(form))
            self.assertEqual(circuit_trues(compiled(form)), count_by_trues(form))
            for literal, number in circuit_literals(compiled(form)):
                self.assertEqual(number, count_by_rows(form, having=(literal,)))

    def test_hundreds_of_names(self):
        names = words_of(300)
        form = (names, tuple(((one, False), (other, True)) for one, other in zip(names, names[1:])))
        circuit = compiled(form)
        self.assertEqual(circuit_count(circuit), 301)
        self.assertEqual(circuit_trues(circuit), (1,) * 301)
        self.assertEqual(circuit_literals(circuit)[:2], (((names[0], False), 300), ((names[0], True), 1)))
        form = form_of_threes(100, 40, 90)
        self.assertEqual(circuit_count(compiled(form)), counted(form, most=10 ** 6))

    def test_a_count_of_many_figures(self):
        circuit = (words_of(400), (TRUE,))
        self.assertEqual(circuit_count(circuit), 2 ** 400)
        self.assertEqual(circuit_trues(circuit)[:3], (1, 400, 400 * 399 // 2))

    def test_chain(self):
        self.assertEqual(circuit_count(chain_circuit()), 1)
        self.assertEqual(circuit_trues(chain_circuit(FALSE)), (0,))

    def test_by_name(self):
        for told in (circuit_count, circuit_trues, circuit_literals):
            self.assertEqual(told(circuit=((), (TRUE,))), told(((), (TRUE,))))


class Weights(unittest.TestCase):
    def test_small_ones(self):
        self.assertEqual(weighed(((), (TRUE,)), WEIGHTS), ONE)
        self.assertEqual(weighed(((), (FALSE,)), WEIGHTS), NOUGHT)
        self.assertEqual(weighed((("a",), (A,)), WEIGHTS), (-3, 4))
        self.assertEqual(weighed((("a",), (NOT_A,)), WEIGHTS), (1, 2))
        self.assertEqual(weighed((("a",), (TRUE,)), WEIGHTS), (-1, 4))
        self.assertEqual(weighed((("a", "b"), (A,)), WEIGHTS), (-3, 2))
        self.assertEqual(weighed((("a", "b"), (A,)), WEIGHTS, free=(1, 3)), (-1, 2))
        self.assertEqual(weighed((("c",), (("literal", "c", False),)), WEIGHTS), NOUGHT)

    def test_sides_that_have_not_the_same_names(self):
        circuit = (("a", "c"), (TRUE, ("literal", "c", True), ("split", "a", 0, 1)))
        self.assertEqual(weighed(circuit, WEIGHTS), (5 * 2 - 15, 4))
        either = (A, ("literal", "c", True), NOT_A, ("and", (1, 2)), ("or", (3, 0), (("case", "a", ("out", 1), ("out", 0)),)))
        self.assertEqual(weighed((("a", "c"), either), WEIGHTS), (5 * 2 - 15, 4))

    def test_of_many(self):
        for circuit in some_circuits():
            ways = plain_ways(circuit)
            for free in FREES:
                wanted = sum((plain_weight_of(circuit[0], way, WEIGHTS, free) for way in ways), Fraction(0))
                self.assertEqual(weighed(circuit, WEIGHTS, free=free), as_pair(wanted))

    def test_of_names_that_all_weigh_one(self):
        for circuit in some_circuits():
            count = circuit_count(circuit)
            self.assertEqual(weighed(circuit, ()), (count, 1))
            self.assertEqual(weighed(circuit, tuple((name, ONE, ONE) for name in circuit[0]), free=(7, 3)), (count, 1))

    def test_of_compiled_ones(self):
        for form in mixed_forms(30):
            for free in FREES:
                self.assertEqual(weighed(compiled(form), WEIGHTS, free=free), weigh_by_rows(form, WEIGHTS, free=free))

    def test_strange_names_turn_nothing(self):
        strange = (("aa", (5, 1), (5, 1)), ("zz", (0, 1), (0, 1)))
        self.assertEqual(weighed((("b",), (B,)), strange, free=(2, 1)), (2, 1))

    def test_fractions_of_many_figures(self):
        big = (10 ** 58 + 1, 10 ** 59)
        self.assertEqual(weighed((("a",), (TRUE,)), (("a", big, big),)), as_pair(2 * Fraction(*big)))

    def test_free_by_name_alone(self):
        self.assertEqual(weighed(weights=(), circuit=(("b",), (B,)), free=(1, 3)), (1, 3))
        with self.assertRaises(TypeError):
            weighed((("b",), (B,)), (), (1, 3))

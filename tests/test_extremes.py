"""Points 50, 51: the HEAVIEST and the LIGHTEST PAPER told."""

import copy
import unittest
from fractions import Fraction

from tests.circuit_samples import (
    FREES, WEIGHTS, any_circuit, as_pair, built_circuits, chain_circuit, plain_fault, plain_reach, plain_ways,
    plain_weight_of, some_circuits)
from tests.samples import words_of
from waycircuits.boundchecker import lets_heaviest, lets_lightest
from waycircuits.compiling import compiled
from waycircuits.errors import FormError, NoModel
from waycircuits.extremes import heaviest, lightest
from waycircuits.fractions import ONE
from waycircuits.weights import weight_of

TRUE, FALSE = ("true",), ("false",)
A, NOT_A, B = ("literal", "a", True), ("literal", "a", False), ("literal", "b", True)
BOTH = ((heaviest, lets_heaviest, max, 1), (lightest, lets_lightest, min, 0))


class Papers(unittest.TestCase):
    def check(self, circuit, weights=WEIGHTS, free=ONE):
        """Both papers are right, by the plain ways and by the checkers; tells both weights."""
        names = circuit[0]
        ways = {way: plain_weight_of(names, way, weights, free) for way in plain_ways(circuit)}
        told = []
        for extreme, lets, best, end in BOTH:
            before = copy.deepcopy(circuit)
            paper = extreme(circuit, weights, free=free)
            weight, row, bounds = paper
            self.assertEqual([type(thing) for thing in (paper, weight, row, bounds)], [tuple] * 4)
            self.assertEqual(circuit, before)
            self.assertEqual(weight, as_pair(best(ways.values())))
            self.assertEqual(Fraction(*weight), ways[row])
            self.assertIsNone(plain_fault(circuit, weights, free, bounds))
            self.assertEqual(plain_reach(circuit, weights, free, bounds)[end], ways[row])
            self.assertEqual(lets(circuit, weights, paper, free=free), weight)
            told.append(weight)
        return told

    def test_small_ones(self):
        self.assertEqual(heaviest(((), (TRUE,)), WEIGHTS), (ONE, (), ((ONE, ONE),)))
        self.assertEqual(self.check(((), (TRUE,))), [ONE, ONE])
        self.assertEqual(self.check((("a",), (A,))), [(-3, 4), (-3, 4)])
        self.assertEqual(self.check((("a",), (TRUE,))), [(1, 2), (-3, 4)])
        self.assertEqual(self.check((("a", "c"), (TRUE,))), [(5, 2), (-15, 4)])
        self.assertEqual(self.check((("a", "e"), (TRUE,))), [(15, 4), (-21, 8)])

    def test_names_that_stand_in_no_node(self):
        self.assertEqual(heaviest((("a", "b"), (B,)), WEIGHTS)[:2], ((1, 2), (False, True)))
        self.assertEqual(lightest((("a", "b"), (B,)), WEIGHTS)[:2], ((-3, 4), (True, True)))

    def test_two_below_nought(self):
        weights = (("a", (1, 1), (-3, 1)), ("b", (1, 1), (-5, 1)))
        circuit = (("a", "b"), (A, NOT_A, ("split", "b", 1, 0)))
        self.assertEqual(heaviest(circuit, weights)[:2], ((15, 1), (True, True)))
        self.assertEqual(lightest(circuit, weights)[:2], ((1, 1), (False, False)))
        self.assertEqual(lightest((("a", "b"), (TRUE,)), weights)[:2], ((-5, 1), (False, True)))

    def test_of_nought(self):
        self.assertEqual(self.check((("c",), (TRUE,)), (("c", (0, 1), (-1, 1)),)), [(0, 1), (-1, 1)])
        self.assertEqual(self.check((("b", "c"), (TRUE,)), (), (0, 1)), [(0, 1), (0, 1)])

    def test_sides_that_have_not_the_same_names(self):
        split = (("a", "c", "e"), (TRUE, ("literal", "c", True), ("split", "a", 0, 1)))
        self.assertEqual(self.check(split), [(75, 4), (-105, 8)])
        either = (A, ("literal", "c", True), NOT_A, ("and", (1, 2)), ("or", (3, 0), (("case", "a", ("out", 1), ("out", 0)),)))
        self.assertEqual(self.check((("a", "c"), either)), [(5, 2), (-15, 4)])

    def test_of_many(self):
        for circuit in some_circuits():
            for free in FREES:
                if plain_ways(circuit):
                    self.check(circuit, WEIGHTS, free)

    def test_no_model(self):
        told = 0
        for circuit in some_circuits():
            if not plain_ways(circuit):
                told += 1
                for extreme, _, _, _ in BOTH:
                    with self.assertRaises(NoModel) as caught:
                        extreme(circuit, WEIGHTS)
                    self.assertIs(caught.exception.form, circuit)
                    self.assertIsInstance(caught.exception, FormError)
        self.assertGreater(told, 5)

    def test_nodes_that_arent_reached_have_bounds_too(self):
        # "a" is UNDER the side of its own "split", and twice in an "and"
        wrong = (A, NOT_A, ("split", "a", 0, 0), ("and", (0, 0, 1)), ("or", (2, 3), (("out", 0),)), FALSE, ("and", (0, 5)), B)
        self.assertEqual(self.check((("a", "b"), wrong)), [(1, 2), (-3, 4)])
        for seed in range(150):
            names, nodes = any_circuit(seed)
            self.check((names, (*nodes, B)))
            self.check((names, (*nodes, TRUE)), WEIGHTS, (-2, 3))

    def test_a_chain_that_isnt_reached(self):
        # each NODE has the one ahead twice, so a weight of a half has ever more figures
        names, nodes = chain_circuit(A, 118)
        circuit = (("a", "b"), (*nodes, B))
        for half in ((1, 2), (-1, 2), (0, 1), (1, 1), (-1, 1)):
            weights = (("a", (3, 1), half),)
            for extreme, lets, _, _ in BOTH:
                paper = extreme(circuit, weights)
                self.assertEqual(lets(circuit, weights, paper), paper[0])

    def test_chain(self):
        self.assertEqual(heaviest(chain_circuit(), ())[:2], (ONE, ()))

    def test_without_weights(self):
        for circuit in built_circuits(20):
            if plain_ways(circuit):
                self.assertEqual(self.check(circuit, ()), [ONE, ONE])

    def test_hundreds_of_names(self):
        names = words_of(250)
        circuit = compiled((names, tuple(((one, False), (other, True)) for one, other in zip(names, names[1:]))))
        weights = tuple((name, (2, 3), (3, 2)) for name in names)
        for extreme, lets, _, _ in BOTH:
            paper = extreme(circuit, weights)
            self.assertEqual(paper[0], weight_of(names, paper[1], weights))
            self.assertEqual(lets(circuit, weights, paper), paper[0])
        self.assertEqual(heaviest(circuit, weights)[1], (True,) * 250)
        self.assertEqual(lightest(circuit, weights)[1], (False,) * 250)

    def test_free_by_name_alone(self):
        for extreme, _, _, _ in BOTH:
            self.assertEqual(extreme(weights=(), circuit=(("b",), (B,)), free=(1, 3))[0], (1, 3))
            with self.assertRaises(TypeError):
                extreme((("b",), (B,)), (), (1, 3))

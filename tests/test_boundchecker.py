"""Points 50, 51: the checkers of any thing as a HEAVIEST, as a LIGHTEST PAPER."""

import copy
import unittest
from fractions import Fraction

from tests.circuit_samples import (
    FREES, WEIGHTS, any_circuit, as_pair, built_circuits, plain_fault, plain_reach, plain_ways, plain_weight_of)
from tests.samples import Mixer, deep, strange_things
from waycircuits.boundchecker import lets_heaviest, lets_lightest
from waycircuits.errors import FormError, NoPaper
from waycircuits.extremes import heaviest, lightest
from waycircuits.fractions import ONE

TRUE, FALSE = ("true",), ("false",)
A, NOT_A, B = ("literal", "a", True), ("literal", "a", False), ("literal", "b", True)
WEIGHING = (("a", (1, 2), (3, 1)), ("b", (-1, 1), (2, 1)))
HALF, THREE, TWO, LESS = (1, 2), (3, 1), (2, 1), (-1, 1)
# the ways: not a, either b; a and b
CIRCUIT = (("a", "b"), (TRUE, B, ("split", "a", 0, 1)))
BOUNDS = ((ONE, ONE), (TWO, TWO), ((-1, 2), (6, 1)))
HEAVY = ((6, 1), (True, True), BOUNDS)
LIGHT = ((-1, 2), (False, False), BOUNDS)
WIDE = ((-9, 1), (99, 1))
BOTH = ((lets_heaviest, HEAVY, "most"), (lets_lightest, LIGHT, "least"))


class Checks(unittest.TestCase):
    def refuse(self, lets, thing, word, at, circuit=CIRCUIT, weights=WEIGHING, **more):
        before = copy.deepcopy(thing)
        with self.assertRaises(NoPaper) as caught:
            lets(circuit, weights, thing, **more)
        self.assertEqual((caught.exception.word, caught.exception.at), (word, at), thing)
        self.assertIsInstance(caught.exception, FormError)
        self.assertEqual(thing, before)

    def accept_bounds(self, circuit, bounds, row, weights=WEIGHING, **more):
        """BOUNDS of a CIRCUIT HOLD: the paper of this ROW is let by, or just its end is another one."""
        weight = as_pair(plain_weight_of(circuit[0], row, weights, more.get("free", ONE)))
        for lets, word in ((lets_heaviest, "most"), (lets_lightest, "least")):
            try:
                self.assertEqual(lets(circuit, weights, (weight, row, bounds), **more), weight)
            except NoPaper as caught:
                self.assertEqual((caught.word, caught.at), (word, -1))

    def refuse_bounds(self, circuit, bounds, row, at, weights=WEIGHING, **more):
        weight = as_pair(plain_weight_of(circuit[0], row, weights, more.get("free", ONE)))
        for lets in (lets_heaviest, lets_lightest):
            self.refuse(lets, (weight, row, bounds), "bounds", at, circuit, weights, **more)


class Lets(Checks):
    def test_papers(self):
        self.assertEqual(lets_heaviest(CIRCUIT, WEIGHING, HEAVY), (6, 1))
        self.assertEqual(lets_lightest(CIRCUIT, WEIGHING, LIGHT), (-1, 2))
        self.assertEqual(lets_heaviest(thing=HEAVY, weights=WEIGHING, circuit=CIRCUIT), (6, 1))
        self.assertEqual(lets_lightest(thing=LIGHT, weights=WEIGHING, circuit=CIRCUIT, free=(5, 1)), (-1, 2))

    def test_free_by_name_alone(self):
        self.assertEqual(lets_heaviest((("c",), (TRUE,)), (), (TWO, (True,), ((ONE, ONE),)), free=TWO), TWO)
        for lets, paper, _ in BOTH:
            with self.assertRaises(TypeError):
                lets(CIRCUIT, WEIGHING, paper, ONE)

    def test_names_that_stand_in_no_node(self):
        circuit = (("a", "b", "c"), CIRCUIT[1])
        weights = (*WEIGHING, ("c", (-1, 1), (1, 1)))
        self.assertEqual(lets_heaviest(circuit, weights, ((6, 1), (True, True, True), BOUNDS)), (6, 1))
        self.assertEqual(lets_lightest(circuit, weights, ((-6, 1), (True, True, False), BOUNDS)), (-6, 1))

    def test_those_told(self):
        for circuit in built_circuits(30):
            if plain_ways(circuit):
                for free in FREES:
                    for lets, extreme in ((lets_heaviest, heaviest), (lets_lightest, lightest)):
                        paper = extreme(circuit, WEIGHTS, free=free)
                        self.assertEqual(lets(circuit, WEIGHTS, paper, free=free), paper[0])


class Shapes(Checks):
    def test_any_thing(self):
        for lets, paper, _ in BOTH:
            for thing in strange_things():
                self.refuse(lets, thing, "shape", -1)
                for at in range(3):
                    self.refuse(lets, (*paper[:at], thing, *paper[at + 1:]), "shape", -1)
                if thing is not None:
                    self.refuse(lets, (*paper[:2], (*BOUNDS[:2], thing)), "shape", -1)

    def test_no_tuple_of_three(self):
        for lets, paper, _ in BOTH:
            for thing in ((), paper[:2], (*paper, ()), list(paper), (paper,), deep(20)):
                self.refuse(lets, thing, "shape", -1)

    def test_no_fraction(self):
        for lets, (_, row, bounds), _ in BOTH:
            for weight in ((6, 2), (12, 2), 6, (6, True), (True, 1), [6, 1], (6,), (6, 1, 1), (6, 0), (6, -1), None):
                self.refuse(lets, (weight, row, bounds), "shape", -1)

    def test_no_row(self):
        for lets, (weight, _, bounds), _ in BOTH:
            for row in ((), (True,), (True, True, True), (1, 1), (0, 0), (True, 1), [True, True], None, (None, True), "tt"):
                self.refuse(lets, (weight, row, bounds), "shape", -1)

    def test_no_things_for_all_nodes(self):
        for lets, (weight, row, _), _ in BOTH:
            for bounds in ((), BOUNDS[:2], (*BOUNDS, None), list(BOUNDS), None):
                self.refuse(lets, (weight, row, bounds), "shape", -1)
            for bound in (
                    (), ONE, (ONE,), (ONE, ONE, ONE), [ONE, ONE], (ONE, (2, 2)), ((0, 2), ONE), (ONE, None), (None, ONE),
                    (None, None), ((True, 1), ONE), (ONE, (1, True)), (1, 1), False, 0, "none"):
                for at in range(3):
                    self.refuse(lets, (weight, row, (*BOUNDS[:at], bound, *BOUNDS[at + 1:])), "shape", -1)

    def test_ahead_of_all_else(self):
        for lets, _, _ in BOTH:
            self.refuse(lets, ((7, 1), (True, False), ((TWO, ONE), None, (1, 1))), "shape", -1)


class Words(Checks):
    def test_row(self):
        for lets, _, _ in BOTH:
            self.refuse(lets, ((-3, 1), (True, False), BOUNDS), "row", -1)
            self.refuse(lets, ((77, 1), (True, False), (None, (TWO, ONE), None)), "row", -1)

    def test_weight(self):
        for lets, (weight, row, bounds), _ in BOTH:
            for other in ((5, 1), (-6, 1), (0, 1), (1, 6), (10 ** 59, 1)):
                self.refuse(lets, (other, row, bounds), "weight", -1)
            self.refuse(lets, ((77, 1), row, (None, (TWO, ONE), None)), "weight", -1)
        self.refuse(lets_heaviest, (HALF, (True,), ((ONE, ONE),)), "weight", -1, (("c",), (TRUE,)), (), free=THREE)

    def test_most_and_least(self):
        # each is a MODEL of its WEIGHT, but no end of the REACH
        for row in ((False, False), (False, True)):
            weight = as_pair(plain_weight_of(("a", "b"), row, WEIGHING, ONE))
            self.refuse(lets_heaviest, (weight, row, BOUNDS), "most", -1)
        for row in ((True, True), (False, True)):
            weight = as_pair(plain_weight_of(("a", "b"), row, WEIGHING, ONE))
            self.refuse(lets_lightest, (weight, row, BOUNDS), "least", -1)

    def test_bounds_wider_than_they_need_be(self):
        # wide where it doesn't turn that end, and where it does
        self.assertEqual(lets_heaviest(CIRCUIT, WEIGHING, (*HEAVY[:2], (*BOUNDS[:2], (WIDE[0], (6, 1))))), (6, 1))
        self.refuse(lets_heaviest, (*HEAVY[:2], (*BOUNDS[:2], WIDE)), "most", -1)
        self.assertEqual(lets_lightest(CIRCUIT, WEIGHING, (*LIGHT[:2], (*BOUNDS[:2], ((-1, 2), WIDE[1])))), (-1, 2))
        self.refuse(lets_lightest, (*LIGHT[:2], (*BOUNDS[:2], WIDE)), "least", -1)
        self.refuse(lets_heaviest, (*HEAVY[:2], (WIDE, *BOUNDS[1:])), "bounds", 2)
        self.assertEqual(lets_heaviest(CIRCUIT, WEIGHING, (*HEAVY[:2], ((LESS, (3, 2)), BOUNDS[1], (WIDE[0], (6, 1))))), (6, 1))

    def test_behind_bounds(self):
        self.refuse(lets_heaviest, (HALF, (False, True), BOUNDS), "weight", -1)
        self.refuse(lets_heaviest, (ONE, (False, True), (None, *BOUNDS[1:])), "bounds", 0)
        self.refuse(lets_lightest, (ONE, (False, True), (*BOUNDS[:2], None)), "bounds", 2)


class Bounds(Checks):
    def test_true(self):
        circuit = (("a",), (TRUE,))
        for bound in ((ONE, ONE), ((0, 1), ONE), (ONE, TWO), WIDE):
            self.accept_bounds(circuit, (bound,), (True,))
        for bound in (None, (TWO, THREE), (LESS, HALF), ((0, 1), (9, 10)), (TWO, ONE)):
            self.refuse_bounds(circuit, (bound,), (True,), 0)

    def test_literal(self):
        for node, row, good, bad in ((A, (True,), THREE, HALF), (NOT_A, (False,), HALF, THREE)):
            self.accept_bounds((("a",), (node,)), ((good, good),), row)
            self.accept_bounds((("a",), (node,)), (WIDE,), row)
            for bound in (None, (bad, bad), (WIDE[0], LESS), ((4, 1), WIDE[1]), (THREE, HALF)):
                self.refuse_bounds((("a",), (node,)), (bound,), row, 0)
        self.accept_bounds((("c",), (("literal", "c", True),)), ((TWO, TWO),), (True,), free=TWO)
        self.refuse_bounds((("c",), (("literal", "c", True),)), ((ONE, ONE),), (True,), 0, free=TWO)

    def test_false_anything(self):
        circuit = (("a",), (FALSE, A))
        for bound in (None, WIDE, (TWO, TWO), (LESS, LESS), ((0, 1), (0, 1))):
            self.accept_bounds(circuit, (bound, (THREE, THREE)), (True,))
        self.refuse_bounds(circuit, ((TWO, ONE), (THREE, THREE)), (True,), 0)

    def test_and(self):
        circuit = (("a", "b"), (A, B, ("and", (0, 1))))
        self.accept_bounds(circuit, ((THREE, THREE), (TWO, TWO), ((6, 1), (6, 1))), (True, True))
        self.refuse_bounds(circuit, ((THREE, THREE), (TWO, TWO), ((5, 1), (5, 1))), (True, True), 2)
        self.refuse_bounds(circuit, ((THREE, THREE), (TWO, TWO), None), (True, True), 2)
        # least times least may be the most
        wide = ((LESS, THREE), ((-4, 1), TWO))
        self.accept_bounds(circuit, (*wide, ((-12, 1), (6, 1))), (True, True))
        self.refuse_bounds(circuit, (*wide, ((-11, 1), (6, 1))), (True, True), 2)
        self.refuse_bounds(circuit, (*wide, ((-12, 1), (5, 1))), (True, True), 2)
        self.refuse_bounds(circuit, (((-2, 1), THREE), ((-4, 1), TWO), ((-12, 1), (7, 1))), (True, True), 2)

    def test_and_of_none(self):
        circuit = (("a",), (("and", ()), A))
        self.accept_bounds(circuit, ((ONE, ONE), (THREE, THREE)), (True,))
        for bound in (None, (TWO, TWO)):
            self.refuse_bounds(circuit, (bound, (THREE, THREE)), (True,), 0)

    def test_and_one_of_whose_nodes_are_none_anything(self):
        circuit = (("a",), (FALSE, A, ("and", (1, 0)), A))
        for bound in (None, WIDE, (LESS, LESS)):
            self.accept_bounds(circuit, (None, (THREE, THREE), bound, (THREE, THREE)), (True,))
        self.refuse_bounds(circuit, (None, (THREE, THREE), (ONE, LESS), (THREE, THREE)), (True,), 2)
        # BOUNDS of "false" that aren't None are looked at in the "and"
        self.refuse_bounds(circuit, ((ONE, TWO), (THREE, THREE), None, (THREE, THREE)), (True,), 2)
        self.accept_bounds(circuit, ((ONE, TWO), (THREE, THREE), (THREE, (6, 1)), (THREE, THREE)), (True,))
        self.refuse_bounds(circuit, ((ONE, TWO), (THREE, THREE), (THREE, (5, 1)), (THREE, THREE)), (True,), 2)

    def test_split(self):
        row = (True, True)
        for least, most, holds in (((-1, 2), (6, 1), True), ((-1, 3), (6, 1), False), ((-1, 2), (5, 1), False)):
            check = self.accept_bounds if holds else (lambda *told: self.refuse_bounds(*told, 2))
            check(CIRCUIT, (*BOUNDS[:2], (least, most)), row)

    def test_split_one_of_whose_sides_is_none(self):
        circuit = (("a", "b"), (FALSE, B, ("split", "a", 0, 1)))
        self.accept_bounds(circuit, (None, (TWO, TWO), ((6, 1), (6, 1))), (True, True))
        self.refuse_bounds(circuit, (None, (TWO, TWO), None), (True, True), 2)
        self.refuse_bounds(circuit, ((ONE, ONE), (TWO, TWO), ((6, 1), (6, 1))), (True, True), 2)
        # b is UNDER the other side alone: a half times from -1 to 2
        self.accept_bounds(circuit, ((ONE, ONE), (TWO, TWO), ((-1, 2), (6, 1))), (True, True))

    def test_split_and_or_all_of_whose_sides_are_none_anything(self):
        circuit = (("a",), (FALSE, ("split", "a", 0, 0), ("or", (0, 1), (("out", 0),)), ("or", (), ()), A))
        for bound in (None, WIDE, (LESS, LESS)):
            self.accept_bounds(circuit, (None, bound, WIDE, bound, (THREE, THREE)), (True,))
            self.accept_bounds(circuit, (None, None, bound, bound, (THREE, THREE)), (True,))
        self.refuse_bounds(circuit, (None, (ONE, LESS), None, None, (THREE, THREE)), (True,), 1)
        self.refuse_bounds(circuit, (None, None, None, (ONE, LESS), (THREE, THREE)), (True,), 3)
        self.refuse_bounds(circuit, (None, (ONE, ONE), None, None, (THREE, THREE)), (True,), 2)

    def test_or(self):
        circuit = (("a", "b"), (A, NOT_A, B, ("and", (1, 2)), ("or", (0, 3), (("case", "a", ("out", 0), ("out", 1)),))))
        ahead = ((THREE, THREE), (HALF, HALF), (TWO, TWO), (ONE, ONE))
        # a weighs 3, times from -1 to 2; the other side 1
        self.accept_bounds(circuit, (*ahead, ((-3, 1), (6, 1))), (True, True))
        self.refuse_bounds(circuit, (*ahead, ((-2, 1), (6, 1))), (True, True), 4)
        self.refuse_bounds(circuit, (*ahead, ((-3, 1), (5, 1))), (True, True), 4)
        self.refuse_bounds(circuit, (*ahead, (THREE, (6, 1))), (True, True), 4)

    def test_nodes_that_arent_reached(self):
        circuit = (("a", "b"), (B, A, ("and", (0, 0)), TRUE))
        ahead = ((TWO, TWO), (THREE, THREE))
        self.accept_bounds(circuit, (*ahead, ((4, 1), (4, 1)), (ONE, ONE)), (True, True))
        self.refuse_bounds(circuit, (*ahead, (TWO, TWO), (ONE, ONE)), (True, True), 2)
        self.refuse_bounds(circuit, (*ahead, None, (ONE, ONE)), (True, True), 2)

    def test_a_name_of_a_split_under_its_side_that_isnt_reached(self):
        # its own name goes in just by what it weighs on this side: a half times 3, 3 times 3
        circuit = (("a", "b"), (A, ("split", "a", 0, 0), TRUE, ("split", "a", 2, 0), B))
        ahead, behind = ((THREE, THREE),), ((ONE, ONE), (HALF, (9, 1)), (TWO, TWO))
        self.accept_bounds(circuit, (*ahead, ((3, 2), (9, 1)), *behind), (True, True))
        self.refuse_bounds(circuit, (*ahead, (TWO, (9, 1)), *behind), (True, True), 1)
        self.refuse_bounds(circuit, (*ahead, ((3, 2), (8, 1)), *behind), (True, True), 1)
        self.refuse_bounds(circuit, (*ahead, ((3, 2), (9, 1)), (ONE, ONE), (ONE, (9, 1)), (TWO, TWO)), (True, True), 3)

    def test_the_first_node(self):
        self.refuse_bounds(CIRCUIT, ((TWO, TWO), None, None), (True, True), 0)
        self.refuse_bounds(CIRCUIT, ((ONE, ONE), None, None), (True, True), 1)
        # the least above the most of a NODE, though a later one is wrong as well
        self.refuse_bounds(CIRCUIT, ((ONE, ONE), (THREE, TWO), None), (True, True), 1)

    def test_of_many(self):
        faults = set()
        for seed in range(700):
            names, nodes = any_circuit(seed)
            circuit, mixer = (names, (*nodes, TRUE)), Mixer(seed)
            bounds = list(heaviest(circuit, WEIGHTS)[2])
            at = mixer.below(len(nodes))
            bounds[at] = (None, WIDE, (ONE, ONE), (LESS, HALF), (TWO, LESS))[mixer.below(5)]
            row = (True,) * len(names)
            fault = plain_fault(circuit, WEIGHTS, ONE, bounds)
            faults.add(fault is None)
            if fault is None:
                self.accept_bounds(circuit, tuple(bounds), row, WEIGHTS)
            else:
                self.refuse_bounds(circuit, tuple(bounds), row, fault, WEIGHTS)
        self.assertEqual(faults, {True, False})

    def test_so_each_model_lies_in_the_reach(self):
        for seed, circuit in enumerate(built_circuits(60)):
            ways = plain_ways(circuit)
            if ways:
                mixer = Mixer(seed)
                bounds = [bound if bound is None or mixer.below(4) else (
                    as_pair(Fraction(*bound[0]) - mixer.below(3)), as_pair(Fraction(*bound[1]) + mixer.below(3)))
                          for bound in heaviest(circuit, WEIGHTS)[2]]
                if plain_fault(circuit, WEIGHTS, ONE, bounds) is None:
                    least, most = plain_reach(circuit, WEIGHTS, ONE, bounds)
                    for way in ways:
                        self.assertTrue(least <= plain_weight_of(circuit[0], way, WEIGHTS, ONE) <= most)
                        self.accept_bounds(circuit, tuple(bounds), way, WEIGHTS)

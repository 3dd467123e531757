"""Point 57: CIRCUITS CONDITIONED by LITERALS PUT."""

import copy
import unittest

from tests.circuit_samples import any_circuit, any_tree, built_circuit, plain_ways, some_circuits, well_built
from tests.samples import Mixer, mixed_forms, some_of
from waycircuits.boundchecker import lets_heaviest
from waycircuits.casechecker import lets_parted
from waycircuits.cases import apart
from waycircuits.circuits import is_circuit, is_decomposed
from waycircuits.compiling import compiled
from waycircuits.conditioning import conditioned
from waycircuits.counting import circuit_count, circuit_literals
from waycircuits.equal import equal_or_row
from waycircuits.errors import LackError, NoName
from waycircuits.extremes import heaviest
from waycircuits.forgetting import forgotten
from waycircuits.numbers import model_at, number_of
from waycircuits.putting import form_put

TRUE, FALSE = ("true",), ("false",)
A, NOT_A, B = ("literal", "a", True), ("literal", "a", False), ("literal", "b", True)
BY_A = ("case", "a", ("out", 0), ("out", 1))


def some_literals(seed, names):
    mixer = Mixer(seed + 31)
    return tuple((name, bool(mixer.below(2))) for name in some_of(seed, names))


def ways_with(circuit, literals):
    """The ROWS of the other NAMES that with these LITERALS are MODELS."""
    told = dict(literals)
    return [tuple(truth for name, truth in zip(circuit[0], way) if name not in told) for way in plain_ways(circuit)
            if all(told.get(name, truth) is truth for name, truth in zip(circuit[0], way))]


class Conditioned(unittest.TestCase):
    def check(self, circuit, literals):
        before = copy.deepcopy(circuit)
        told = conditioned(circuit, literals)
        self.assertEqual(circuit, before)
        self.assertTrue(well_built(told))
        self.assertEqual(told[0], tuple(name for name in circuit[0] if name not in dict(literals)))
        self.assertEqual(plain_ways(told), ways_with(circuit, literals))
        return told

    def test_each_kind(self):
        for truth in (False, True):
            literals = (("a", truth),)
            for nodes in (
                    (TRUE,), (FALSE,), (A,), (NOT_A,), (B,), (A, B, ("and", (0, 1))), (TRUE, B, ("split", "a", 0, 1)),
                    (B, ("split", "a", 0, 0)), (A, NOT_A, ("split", "b", 0, 1)), (A, NOT_A, ("or", (0, 1), (BY_A,))),
                    (A, ("or", (0,), ())), (("or", (), ()),), (FALSE, ("or", (0, 0), (BY_A,)))):
                self.check((("a", "b"), nodes), literals)

    def test_case_trees_go_without_the_names_put(self):
        # the papers name a, in the midst, at the top, twice
        nodes = (A, NOT_A, B, ("literal", "b", False), ("and", (0, 2)), ("and", (1, 3)))
        for tree in (
                BY_A, ("case", "b", BY_A, ("case", "a", ("out", 1), ("out", 1))),
                ("case", "a", ("case", "a", ("out", 0), ("case", "a", ("out", 1), ("out", 1))), ("out", 1)),
                ("case", "b", ("case", "b", ("out", 0), BY_A), ("case", "a", ("out", 0), ("case", "b", BY_A, ("out", 1))))):
            circuit = (("a", "b"), (*nodes, ("or", (4, 5), (tree,))))
            self.assertTrue(well_built(circuit))
            for literals in ((), (("a", True),), (("a", False),), (("b", True),), (("a", True), ("b", True))):
                self.check(circuit, literals)

    def test_no_literals_and_all_of_them(self):
        for circuit in some_circuits():
            self.assertEqual(self.check(circuit, ())[0], circuit[0])
            ways = plain_ways(circuit)
            for way in ways[:2]:
                self.assertEqual(circuit_count(self.check(circuit, tuple(zip(circuit[0], way)))), 1)
            others = tuple((name, not truth) for name, truth in zip(circuit[0], ways[0] if ways else (True,) * 9))
            self.check(circuit, others)

    def test_of_many(self):
        for seed, circuit in enumerate(some_circuits()):
            for more in range(3):
                literals = some_literals(seed * 3 + more, circuit[0])
                self.check(circuit, literals)

    def test_its_count_is_how_many_models_have_the_literals(self):
        for circuit in some_circuits():
            for literal, number in circuit_literals(circuit):
                self.assertEqual(circuit_count(conditioned(circuit, (literal,))), number)

    def test_in_steps_in_any_order(self):
        for seed, circuit in enumerate(some_circuits()):
            literals = some_literals(seed, circuit[0])
            wanted = plain_ways(conditioned(circuit, literals))
            for order in (literals, literals[::-1], literals[1:] + literals[:1]):
                left = circuit
                for literal in order:
                    left = conditioned(left, (literal,))
                self.assertTrue(well_built(left))
                self.assertEqual(plain_ways(left), wanted)

    def test_nodes_that_arent_reached(self):
        for seed in range(150):
            names, nodes = any_circuit(seed)
            literals = some_literals(seed, names)
            self.check((names, (*nodes, ("literal", "b", True))), literals)
            # trees of NODES that aren't REACHED are CASE TREES of the other NAMES, too
            mixer = Mixer(seed)
            junk = ("or", (0, 0), (any_tree(mixer, names, 6),))
            self.check((names, (TRUE, junk, ("literal", "b", True))), literals)

    def test_forms_put(self):
        for form in mixed_forms(40):
            for literal in ((name, truth) for name in form[0] for truth in (False, True)):
                self.assertEqual(equal_or_row(form_put(form, literal), conditioned(compiled(form), (literal,)))[0], "equal")

    def test_may_be_handed_in_again(self):
        for seed in range(20):
            told = conditioned(built_circuit(seed), (("b", True),))
            self.assertIs(is_circuit(told), True)
            self.assertIs(is_decomposed(told), True)
            self.assertIs(lets_parted(told), True)
            apart(told, 0, len(told[1]) - 1)
            if circuit_count(told):
                paper = heaviest(told, ())
                self.assertEqual(lets_heaviest(told, (), paper), paper[0])
                self.assertEqual(number_of(told, model_at(told, 0)), 0)
            forgotten(told, ())

    def test_deep_trees(self):
        names = tuple("abcdefghijklmnopqrst")
        tree = ("out", 0)
        for name in reversed(names):
            tree = ("case", name, tree, ("out", 0))
        circuit = (names, (FALSE, TRUE, ("or", (0, 1), (tree,))))
        told = conditioned(circuit, tuple((name, False) for name in names[::2]))
        self.assertIs(lets_parted(told), True)
        self.assertIs(is_circuit(told), True)

    def test_no_name(self):
        circuit = (("b", "d"), (TRUE,))
        for literals, name in (
                ((("a", True),), "a"), ((("a", True), ("c", False)), "a"), ((("b", True), ("c", False), ("e", True)), "c"),
                ((("b", True), ("d", True), ("e", True)), "e")):
            with self.assertRaises(NoName) as caught:
                conditioned(circuit, literals)
            self.assertEqual(caught.exception.name, name)
            self.assertIsInstance(caught.exception, LackError)
        with self.assertRaises(NoName):
            conditioned(((), (TRUE,)), (("a", True),))

    def test_by_name(self):
        self.assertEqual(plain_ways(conditioned(literals=(("a", True),), circuit=(("a",), (A,)))), [()])

"""Points 7, 44, 46: the checkers of any thing as a CASE TREE of two NODES, and of a CIRCUIT as PARTED."""

import copy
import unittest

from tests.circuit_samples import (
    NAMES, any_circuit, any_tree, built_circuits, chain_circuit, compiled_circuits, plain_astray, plain_met, plain_parted,
    plain_rows_of)
from tests.samples import Mixer, deep, strange_things
from waycircuits.casechecker import lets_apart, lets_parted
from waycircuits.circuits import is_circuit
from waycircuits.errors import FormError, LackError, NoNumber, NoPaper

A, NOT_A, B, NOT_B = ("literal", "a", True), ("literal", "a", False), ("literal", "b", True), ("literal", "b", False)
ONE, OTHER = ("out", 0), ("out", 1)
CIRCUIT = (("a", "b", "c"), (
    A, NOT_A, B, ("and", (0, 2)), ("split", "c", 0, 1), ("split", "c", 1, 0), ("false",), ("true",), NOT_B, ("and", (0, 1))))
BY_A = ("case", "a", ONE, OTHER)
# of 4 and 5: a as c, a other than c
BY_TWO = ("case", "c", ("case", "a", ONE, OTHER), ("case", "a", OTHER, ONE))


class Checks(unittest.TestCase):
    def refuse(self, one, other, thing, word, at, circuit=CIRCUIT):
        before = copy.deepcopy(thing)
        with self.assertRaises(NoPaper) as caught:
            lets_apart(circuit, one, other, thing)
        self.assertEqual((caught.exception.word, caught.exception.at), (word, at), (one, other, thing))
        self.assertIsInstance(caught.exception, FormError)
        self.assertEqual(thing, before)


class Apart(Checks):
    def accept(self, one, other, *things):
        for thing in things:
            self.assertIs(lets_apart(CIRCUIT, one, other, thing), True, (one, other, thing))

    def test_trees(self):
        self.accept(0, 1, BY_A, ("case", "b", BY_A, BY_A))
        self.accept(1, 0, ("case", "a", OTHER, ONE))
        self.accept(3, 1, BY_A)
        self.accept(4, 5, BY_TWO, ("case", "a", ("case", "c", ONE, OTHER), ("case", "c", OTHER, ONE)))
        self.accept(6, 7, ONE)
        self.accept(7, 6, OTHER)
        self.accept(6, 6, ONE, OTHER, ("case", "b", ONE, OTHER))

    def test_one_node_twice(self):
        self.accept(9, 9, BY_A, ("case", "a", OTHER, ONE), ("case", "a", ONE, ONE))
        self.refuse(0, 0, BY_A, "out", (1,))
        self.refuse(9, 9, ONE, "out", ())

    def test_out(self):
        self.refuse(0, 1, ONE, "out", ())
        self.refuse(0, 1, OTHER, "out", ())
        self.refuse(0, 1, ("case", "a", OTHER, ONE), "out", (0,))
        self.refuse(0, 1, ("case", "a", ONE, ONE), "out", (1,))
        self.refuse(4, 5, ("case", "c", ("case", "a", ONE, OTHER), ONE), "out", (1,))
        self.refuse(4, 5, ("case", "c", OTHER, BY_A), "out", (0,))
        self.refuse(4, 5, ("case", "c", BY_A, BY_A), "out", (1, 0))
        self.refuse(4, 5, ("case", "c", BY_A, ("case", "a", OTHER, OTHER)), "out", (1, 1))
        self.refuse(7, 7, ("case", "a", BY_A, BY_A), "out", (0, 0))

    def test_behind_a_name_that_has_a_literal(self):
        # the tree of the other truth isn't come to; it gives a turn, too
        wrong, right = ("case", "a", OTHER, ONE), BY_A
        self.accept(0, 1, ("case", "a", ("case", "a", ONE, ONE), ("case", "a", ONE, OTHER)))
        self.accept(0, 1, ("case", "a", ("case", "a", ONE, wrong), ("case", "a", wrong, OTHER)))
        self.refuse(0, 1, ("case", "a", wrong, right), "out", (0, 0))
        self.refuse(0, 1, ("case", "a", right, wrong), "out", (1, 1))
        self.refuse(0, 1, ("case", "a", ONE, ("case", "b", OTHER, ("case", "a", OTHER, ONE))), "out", (1, 1, 1))
        self.refuse(0, 1, ("case", "b", ("case", "b", ("case", "b", ONE, ONE), ONE), ONE), "out", (0, 0, 0))

    def test_shape(self):
        for thing in (
                (), None, ("out",), ("out", 2), ("out", -1), ("out", True), ("out", False), ("out", 0, 0), ["out", 0], "out",
                ("case", "a", ONE), ("case", "d", ONE, OTHER), ("case", "a", ONE, OTHER, ONE), ("case", ("a", True), ONE, OTHER),
                ("case", 0, ONE, OTHER), ("case", ["a"], ONE, OTHER), ["case", "a", ONE, OTHER], ("case", "a", ONE, None),
                ("case", "a", None, OTHER), ("case", "a", (ONE, OTHER)), ("cases", BY_A), deep(28, ONE), (ONE,)):
            self.refuse(0, 1, thing, "shape", -1)

    def test_any_thing(self):
        for thing in strange_things():
            self.refuse(0, 1, thing, "shape", -1)
            self.refuse(0, 1, ("case", "a", ONE, thing), "shape", -1)

    def test_shape_ahead_of_out(self):
        # of trees that aren't come to, too
        self.refuse(0, 1, ("case", "a", OTHER, ("case", "b", ONE, ("out", 2))), "shape", -1)
        self.refuse(0, 1, ("case", "a", ("case", "a", ONE, ("out", True)), OTHER), "shape", -1)
        self.refuse(0, 1, ("case", "a", ("case", "a", ONE, ("case", "z", ONE, ONE)), OTHER), "shape", -1)

    def test_no_number(self):
        for one, other, number in ((10, 0, 10), (0, 10, 10), (11, 12, 11), (-1, 0, -1), (0, -1, -1), (12, -1, 12)):
            for thing in (BY_A, None, ONE):
                with self.assertRaises(NoNumber) as caught:
                    lets_apart(CIRCUIT, one, other, thing)
                self.assertEqual(caught.exception.number, number)
                self.assertIsInstance(caught.exception, LackError)

    def test_of_many(self):
        seen = set()
        for seed in range(1500):
            circuit, mixer = any_circuit(seed, ("a", "b", "c")), Mixer(seed)
            nodes = circuit[1]
            pair = tuple(mixer.below(len(nodes)) for _ in range(2))
            tree = any_tree(mixer, circuit[0])
            way = plain_astray(nodes, pair, tree)
            seen.add(way is None)
            if way is None:
                self.assertIs(lets_apart(circuit, *pair, tree), True)
                for row in plain_rows_of(circuit[0]):
                    self.assertFalse(plain_met(nodes, pair[0], row) and plain_met(nodes, pair[1], row))
            else:
                self.refuse(*pair, tree, "out", way, circuit)
        self.assertEqual(seen, {True, False})

    def test_deep_trees(self):
        tree = ONE
        for _ in range(27):
            tree = ("case", "b", tree, ONE)
        self.refuse(0, 1, tree, "out", (0,) * 27)

    def test_by_name(self):
        self.assertIs(lets_apart(thing=BY_A, other=1, one=0, circuit=CIRCUIT), True)


class Parted(unittest.TestCase):
    def refuse(self, nodes, at, names=("a", "b")):
        circuit = (names, nodes)
        self.assertIs(is_circuit(circuit), True)
        with self.assertRaises(NoPaper) as caught:
            lets_parted(circuit)
        self.assertEqual((caught.exception.word, caught.exception.at), ("out", at))
        self.assertIsInstance(caught.exception, FormError)

    def test_parted(self):
        for nodes in (
                (A,), (A, NOT_A, ("or", (0, 1), (BY_A,))), (("or", (), ()),), (A, ("or", (0,), ())),
                (("false",), ("or", (0, 0, 0), (ONE, OTHER, ONE))), (A, ("and", (0, 0)))):
            self.assertIs(lets_parted((("a", "b"), nodes)), True)

    def test_the_first_or_that_is_reached(self):
        wrong = ("or", (0, 1), (ONE,))
        self.refuse((A, NOT_A, wrong), (2, 0))
        self.refuse((A, NOT_A, wrong, wrong, ("and", (2, 3))), (2, 0))
        self.refuse((A, NOT_A, wrong, wrong, ("and", (3,))), (3, 0))
        self.refuse((A, NOT_A, ("or", (0, 1), (BY_A,)), wrong, ("split", "b", 3, 2)), (3, 0))
        self.refuse((A, NOT_A, wrong, ("or", (2, 1), (ONE,))), (2, 0))

    def test_reached_alone(self):
        wrong = ("or", (0, 1), (ONE,))
        self.assertIs(lets_parted((("a",), (A, NOT_A, wrong, A))), True)
        self.assertIs(lets_parted((("a",), (A, NOT_A, wrong, ("or", (2,), ()), ("true",)))), True)

    def test_the_first_paper_and_the_turns(self):
        both = ("case", "b", ONE, OTHER)
        nodes = (A, NOT_A, B, ("and", (1, 2)), NOT_B, ("and", (1, 4)))
        # a, not a and b, not a and not b
        right = (BY_A, BY_A, ("case", "b", ONE, OTHER))
        some = (0, 3, 5)
        self.assertIs(lets_parted((("a", "b"), (*nodes, ("or", some, right)))), True)
        for at, tree, way in (
                (0, ONE, ()), (0, both, (0,)), (1, ("case", "a", OTHER, ONE), (0,)), (1, ("case", "b", BY_A, ONE), (1,)),
                (2, BY_A, (0,)), (2, ("case", "a", both, OTHER), ()), (2, ("case", "b", ONE, ("case", "a", ONE, ONE)), (1, 0))):
            papers = (*right[:at], tree, *right[at + 1:])
            if way == ():
                if tree == ONE:
                    self.refuse((*nodes, ("or", some, papers)), (6, at))
                else:
                    self.assertIs(lets_parted((("a", "b"), (*nodes, ("or", some, papers)))), True)
            else:
                self.refuse((*nodes, ("or", some, papers)), (6, at, *way))
        self.refuse((*nodes, ("or", some, (BY_A, ONE, ONE))), (6, 1))
        self.refuse((*nodes, ("or", some, (BY_A, BY_A, ONE))), (6, 2))

    def test_papers_of_places(self):
        # 1 and 2, then 1 and 3, then 2 and 3: the paper of the last stands last
        papers = (BY_A, BY_A, ("case", "a", ONE, ONE))
        self.refuse((A, NOT_A, ("or", (0, 1, 1), papers)), (2, 2, 0))

    def test_not_whether_decomposed(self):
        self.assertIs(lets_parted((("a",), (A, NOT_A, ("and", (0, 1)), ("or", (2, 2), (BY_A,))))), True)

    def test_of_many(self):
        for seed in range(600):
            circuit = any_circuit(seed, ("a", "b", "c"))
            at = plain_parted(circuit)
            if at is None:
                self.assertIs(lets_parted(circuit), True)
            else:
                self.refuse(circuit[1], at, circuit[0])

    def test_well_built_ones(self):
        for circuit in [*built_circuits(60), *built_circuits(20, names=NAMES[:3]), *compiled_circuits(20)]:
            self.assertIs(lets_parted(circuit), True)
        self.assertIs(lets_parted(circuit=chain_circuit()), True)

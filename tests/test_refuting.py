"""Points 7, 43: whether a NODE is REFUTED by LITERALS."""

import unittest
from itertools import product

from tests.circuit_samples import any_circuit, built_circuits, chain_circuit, plain_refuted
from waycircuits.circuits import node_met
from waycircuits.errors import LackError, NoNumber
from waycircuits.refuting import refuted

A, NOT_A, B = ("literal", "a", True), ("literal", "a", False), ("literal", "b", True)
OUT = ("out", 0)
CIRCUIT = (("a", "b"), (
    ("true",), ("false",), A, NOT_A, ("and", ()), ("or", (), ()), ("and", (2, 3)), ("or", (2, 3), (OUT,)),
    ("split", "b", 2, 3), ("or", (1, 2), (OUT,)), ("and", (0, 2)), ("split", "b", 1, 1), ("split", "a", 1, 2)))


def literals_of(names):
    """All rising tuples of LITERALS of unlike names."""
    for signs in product((None, False, True), repeat=len(names)):
        yield tuple((name, sign) for name, sign in zip(names, signs) if sign is not None)


class Refutes(unittest.TestCase):
    def check(self, literals, *numbers):
        for number in range(len(CIRCUIT[1])):
            self.assertIs(refuted(CIRCUIT, number, literals), number in numbers, (number, literals))

    def test_each_kind(self):
        self.check((), 1, 5, 11)
        self.check((("a", False),), 1, 2, 5, 6, 9, 10, 11, 12)
        self.check((("a", True),), 1, 3, 5, 6, 11)

    def test_a_split_whose_name_is_told(self):
        self.check((("b", False),), 1, 5, 11)
        self.check((("a", True), ("b", True)), 1, 3, 5, 6, 8, 11)
        self.check((("a", False), ("b", True)), 1, 2, 5, 6, 9, 10, 11, 12)
        self.check((("a", False), ("b", False)), 1, 2, 5, 6, 8, 9, 10, 11, 12)

    def test_strange_names(self):
        self.check((("zz", True),), 1, 5, 11)
        self.check((("aa", False), ("c", True)), 1, 5, 11)

    def test_one_that_no_row_meets_isnt_refuted_yet(self):
        self.assertIs(refuted(CIRCUIT, 6, ()), False)

    def test_of_many(self):
        for circuit in [*(any_circuit(seed, ("a", "b", "c")) for seed in range(80)), *built_circuits(8, names=("a", "b", "c"))]:
            for literals in literals_of(circuit[0]):
                for number in range(len(circuit[1])):
                    self.assertIs(refuted(circuit, number, literals), plain_refuted(circuit[1], number, dict(literals)))

    def test_where_all_names_are_told_it_is_just_what_the_row_doesnt_meet(self):
        for seed in range(60):
            names, nodes = any_circuit(seed)
            for row in product((False, True), repeat=len(names)):
                for number in range(len(nodes)):
                    told = refuted((names, nodes), number, tuple(zip(names, row)))
                    self.assertIs(told, not node_met((names, nodes), number, row))

    def test_with_more_literals_it_is_refuted_still(self):
        for seed in range(40):
            circuit = any_circuit(seed, ("a", "b", "c"))
            all_literals = list(literals_of(circuit[0]))
            for number in range(len(circuit[1])):
                told = {literals for literals in all_literals if refuted(circuit, number, literals)}
                for fewer in told:
                    for more in all_literals:
                        self.assertTrue(more in told or not set(fewer) <= set(more))

    def test_chain(self):
        self.assertIs(refuted((("a",), chain_circuit(A)[1]), 119, (("a", False),)), True)
        self.assertIs(refuted((("a",), chain_circuit(A)[1]), 119, ()), False)

    def test_no_number(self):
        for number in (13, -1, 10 ** 59):
            with self.assertRaises(NoNumber) as caught:
                refuted(CIRCUIT, number, ())
            self.assertEqual(caught.exception.number, number)
            self.assertIsInstance(caught.exception, LackError)

    def test_by_name(self):
        self.assertIs(refuted(literals=(("a", False),), node=2, circuit=CIRCUIT), True)

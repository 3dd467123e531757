"""Point 45: of two NODES a CASE TREE, or a ROW that MEETS both."""

import copy
import unittest

from tests.circuit_samples import NAMES, any_circuit, built_circuits, chain_circuit, plain_astray, plain_met, plain_rows_of
from tests.samples import Mixer, words_of
from waycircuits.casechecker import lets_apart
from waycircuits.cases import apart
from waycircuits.circuits import is_circuit
from waycircuits.errors import LackError, NoNumber

A, NOT_A, B = ("literal", "a", True), ("literal", "a", False), ("literal", "b", True)


def parity_circuit(names):
    """A CIRCUIT whose last two NODES are MET by ROWS of evenly, of oddly many truths True."""
    nodes = [("true",), ("false",)]
    for name in reversed(names):
        even, odd = len(nodes) - 2, len(nodes) - 1
        nodes += [("split", name, even, odd), ("split", name, odd, even)]
    return (names, tuple(nodes))


class Apart(unittest.TestCase):
    def check(self, circuit, one, other):
        """What is told is so; tells its word."""
        names, nodes = circuit
        before = copy.deepcopy(circuit)
        told = apart(circuit, one, other)
        self.assertEqual(circuit, before)
        self.assertIs(type(told), tuple)
        word, thing = told
        if word == "cases":
            self.assertIs(lets_apart(circuit, one, other, thing), True)
            self.assertIsNone(plain_astray(nodes, (one, other), thing))
        else:
            self.assertEqual(word, "row")
            self.assertEqual([type(truth) for truth in thing], [bool] * len(names))
            for number in (one, other):
                self.assertTrue(plain_met(nodes, number, dict(zip(names, thing))))
        return word

    def test_row(self):
        circuit = (("a", "b", "c"), (A, B, ("and", (0, 1)), ("true",)))
        self.assertEqual(apart(circuit, 0, 2)[0], "row")
        self.assertEqual(apart(circuit, 0, 2)[1][:2], (True, True))
        self.assertEqual(self.check(circuit, 3, 3), "row")
        self.assertEqual(apart(((), (("true",),)), 0, 0), ("row", ()))

    def test_cases(self):
        circuit = (("a",), (A, NOT_A, ("false",)))
        self.assertEqual(apart(circuit, 0, 1), ("cases", ("case", "a", ("out", 0), ("out", 1))))
        self.assertEqual(apart(circuit, 1, 0), ("cases", ("case", "a", ("out", 1), ("out", 0))))
        self.assertEqual(apart(circuit, 0, 2), ("cases", ("out", 1)))
        self.assertEqual(apart(circuit, 2, 0), ("cases", ("out", 0)))
        self.assertEqual(self.check(circuit, 2, 2), "cases")

    def test_one_node_twice(self):
        circuit = (("a", "b"), (A, NOT_A, ("and", (0, 1)), B))
        self.assertEqual([self.check(circuit, number, number) for number in range(4)], ["row", "row", "cases", "row"])

    def test_of_many(self):
        words = []
        for seed in range(700):
            circuit, mixer = any_circuit(seed, most=25), Mixer(seed)
            pair = tuple(mixer.below(len(circuit[1])) for _ in range(2))
            words.append(self.check(circuit, *pair))
            both = any(all(plain_met(circuit[1], number, row) for number in pair) for row in plain_rows_of(circuit[0]))
            self.assertEqual(words[-1], "row" if both else "cases")
        self.assertEqual(set(words), {"row", "cases"})

    def test_of_well_built_ones(self):
        for seed, circuit in enumerate(built_circuits(60)):
            mixer = Mixer(seed)
            for _ in range(5):
                self.check(circuit, mixer.below(len(circuit[1])), mixer.below(len(circuit[1])))

    def test_just_one_of_both(self):
        for seed in range(200):
            circuit = any_circuit(seed, NAMES[:3])
            one, other = len(circuit[1]) - 1, seed % len(circuit[1])
            self.assertEqual(self.check(circuit, one, other), self.check(circuit, other, one))

    def test_parity(self):
        circuit = parity_circuit(words_of(12))
        self.assertEqual(self.check(circuit, 24, 25), "cases")
        self.assertEqual(self.check(circuit, 24, 24), "row")
        self.assertEqual(self.check(circuit, 24, 23), "row")

    def test_names_that_hang_on_nothing_dont_part(self):
        # a parts both; the other names, under just one or just the other, are no part of the tree
        names = words_of(60)
        nodes = [("literal", name, True) for name in names] + [("literal", names[0], False)]
        nodes += [("and", tuple(range(30))), ("and", (60, *range(30, 60)))]
        told = apart((names, tuple(nodes)), 61, 62)
        self.assertEqual(told, ("cases", ("case", names[0], ("out", 0), ("out", 1))))

    def test_hundreds_of_names(self):
        # both tell that each name leads to the next one; one begins with True, the other one ends with False
        names = words_of(300)
        nodes = [("literal", names[0], True), ("literal", names[-1], False), ("true",)]
        for at in range(299):
            nodes += [("literal", names[at], False), ("literal", names[at + 1], True),
                      ("or", (3 + 3 * at, 4 + 3 * at), (("out", 0),))]
        leads = tuple(range(5, 3 + 3 * 299, 3))
        nodes += [("and", (0, *leads)), ("and", (1, *leads))]
        circuit = (names, tuple(nodes))
        self.assertIs(is_circuit(circuit), True)
        word, tree = apart(circuit, len(nodes) - 2, len(nodes) - 1)
        self.assertEqual(word, "cases")
        self.assertIs(lets_apart(circuit, len(nodes) - 2, len(nodes) - 1, tree), True)

    def test_chain(self):
        self.assertEqual(apart(chain_circuit(), 119, 118), ("row", ()))
        self.assertEqual(apart((("a",), chain_circuit(A)[1]), 119, 0), ("row", (True,)))

    def test_no_number(self):
        circuit = (("a",), (A, NOT_A))
        for one, other, number in ((2, 0, 2), (0, 2, 2), (3, 2, 3), (-1, 2, -1), (1, -2, -2), (10 ** 59, -1, 10 ** 59)):
            with self.assertRaises(NoNumber) as caught:
                apart(circuit, one, other)
            self.assertEqual(caught.exception.number, number)
            self.assertIsInstance(caught.exception, LackError)

    def test_by_name(self):
        self.assertEqual(apart(other=1, one=0, circuit=(("a",), (A, ("false",)))), ("cases", ("out", 1)))

"""Points 7, 40, 41, 42: CIRCUITS by kind, NAMES UNDER a NODE, what a ROW MEETS, DECOMPOSED ones."""

import copy
import unittest

from tests.circuit_samples import (
    NAMES, any_circuit, built_circuits, chain_circuit, compiled_circuits, plain_decomposed, plain_met, plain_rows_of,
    plain_under, plain_ways)
from tests.samples import deep, strange_things, words_of
from waycircuits.circuits import is_circuit, is_decomposed, met_by, names_under, node_met
from waycircuits.compiling import compiled
from waycircuits.errors import LackError, NoNumber
from waycircuits.words import is_names

TRUE, FALSE = ("true",), ("false",)
A, NOT_A, B = ("literal", "a", True), ("literal", "a", False), ("literal", "b", True)
OUT = ("out", 0)
CASE = ("case", "a", OUT, ("out", 1))
MANY = [any_circuit(seed) for seed in range(300)]


def of(*nodes, names=("a", "b")):
    return (names, nodes)


class Kinds(unittest.TestCase):
    def accept(self, *things):
        for thing in things:
            before = copy.deepcopy(thing)
            self.assertIs(is_circuit(thing), True, thing)
            self.assertEqual(thing, before)

    def refuse(self, *things):
        for thing in things:
            self.assertIs(is_circuit(thing), False, thing)

    def test_circuits(self):
        self.accept(
            of(TRUE), of(FALSE), of(A), of(NOT_A), ((), (TRUE,)), ((), (("and", ()),)), of(("or", (), ())),
            of(TRUE, ("and", (0, 0, 0))), of(A, B, ("and", (1, 0))), of(TRUE, FALSE, ("split", "b", 1, 0)),
            of(A, ("split", "a", 0, 0)), of(A, NOT_A, ("or", (0, 1), (CASE,))), of(A, ("or", (0,), ())),
            of(A, ("or", (0, 0, 0), (OUT, CASE, OUT))))

    def test_any_made_ones(self):
        self.accept(*MANY, *built_circuits(30), *compiled_circuits(30), compiled((("a",), ((),))))

    def test_by_kind_alone(self):
        # no NODE is REACHED but the last, papers are wrong, names stand under two nodes
        self.accept(of(A, A, ("and", (0, 1)), TRUE), of(A, A, ("or", (0, 1), (OUT,))), of(A, ("and", (0, 0))))
        self.accept(of(A, ("or", (0, 0), (("case", "a", ("case", "a", OUT, CASE), OUT),))))

    def test_any_thing(self):
        self.refuse(*strange_things())
        for thing in strange_things():
            self.refuse(((), thing), ((), (thing,)), (("a",), (("and", thing),)), (("a",), (("literal", thing, True),)))
            self.refuse(of(TRUE, ("or", (0, 0), (thing,))), of(TRUE, ("or", (0, 0), (("case", "a", OUT, thing),))))
            if not is_names(thing):
                self.refuse((thing, (TRUE,)))
            if repr(thing) != "0":
                self.refuse(of(TRUE, ("split", "a", 0, thing)))

    def test_no_pair_of_names_and_nodes(self):
        self.refuse(
            (("a",),), (("a",), (TRUE,), ()), [("a",), (TRUE,)], (["a"], (TRUE,)), (("a",), [TRUE]), (("b", "a"), (TRUE,)),
            (("a", "a"), (TRUE,)), (("A",), (TRUE,)), ("a", (TRUE,)), (("a",), ()), (("a",), TRUE), ((), None))

    def test_no_node(self):
        for node in (
                (), None, "true", ["true"], ("true", 1), ("true", ()), ("false", True), ("True",), (True,), ("literal",),
                ("literal", "a"), ("literal", "a", 1), ("literal", "a", 0), ("literal", "a", None), ("literal", "c", True),
                ("literal", ("a", True)), ("literal", "a", True, True), ("literal", ["a"], True), ("and",), ("and", 0),
                ("and", [0]), ("and", (0,), ()), ("and", ((0,),)), ("and", 0, 0), ("split", "a", 0), ("split", "a", (0, 0)),
                ("split", "c", 0, 0), ("split", "a", 0, 0, 0), ("split", ("a",), 0, 0), ("split", "a", None, 0),
                ("or", (0,)), ("or", (0,), (), ()), ("or", 0, ()), ("or", [0], ()), ("or", (0,), []), ("or", (0,), None),
                ("xor", (0,), ()), ("not", 0), (("true",),), deep(25)):
            self.refuse(of(TRUE, node), of(TRUE, node, TRUE))

    def test_numbers_of_no_node_ahead(self):
        for number in (2, 3, -1, -2, 10 ** 59, True, False, None, "0", (0,)):
            for node in (("and", (number,)), ("and", (0, number)), ("split", "a", number, 0), ("split", "a", 0, number),
                         ("or", (number,), ()), ("or", (0, number), (OUT,))):
                self.refuse(of(TRUE, FALSE, node), of(TRUE, FALSE, node, TRUE, TRUE))
        self.refuse(of(("and", (0,))))

    def test_a_literal_or_split_of_strange_names(self):
        self.refuse(((), (A,)), ((), (TRUE, ("split", "a", 0, 0))), (("b",), (A,)), (("b",), (A, TRUE)))

    def test_papers_as_many_as_twos(self):
        for many in range(6):
            for papers in range(17):
                thing = of(TRUE, ("or", (0,) * many, (OUT,) * papers))
                self.assertIs(is_circuit(thing), papers == many * (many - 1) // 2)

    def test_trees_by_kind(self):
        for tree in (
                (), None, ("out",), ("out", 2), ("out", -1), ("out", True), ("out", False), ("out", None), ("out", (0,)),
                ("out", 0, 0), ["out", 0], "out", ("case",), ("case", "a", OUT), ("case", "c", OUT, OUT),
                ("case", "a", OUT, OUT, OUT), ("case", "a", OUT, None), ("case", "a", None, OUT), ("case", 0, OUT, OUT),
                ("case", ["a"], OUT, OUT), ("case", "a", (OUT, OUT)), ["case", "a", OUT, OUT], ("Case", "a", OUT, OUT),
                ("case", "a", CASE, ("case", "b", OUT, ("out", True)))):
            self.refuse(of(TRUE, ("or", (0, 0), (tree,))), of(TRUE, ("or", (0, 0, 0), (OUT, tree, OUT)), TRUE))

    def test_whatever_size(self):
        names = words_of(700)
        wide = (names, (*[("literal", name, True) for name in names], ("and", tuple(range(700)))))
        self.accept(wide, chain_circuit(many=900))
        tree = OUT
        for _ in range(20):
            tree = ("case", "a", OUT, tree)
        self.accept(of(TRUE, ("or", (0, 0), (tree,))))


class Under(unittest.TestCase):
    def test_under(self):
        circuit = of(A, B, ("split", "c", 0, 1), ("or", (0, 1), (("case", "d", OUT, OUT),)), TRUE, names=NAMES)
        told = [names_under(circuit, number) for number in range(5)]
        self.assertEqual(told, [("a",), ("b",), ("a", "b", "c"), ("a", "b"), ()])

    def test_of_many(self):
        for circuit in [*MANY[:120], *built_circuits(20)]:
            for number in range(len(circuit[1])):
                told = names_under(circuit, number)
                self.assertEqual(told, tuple(sorted(plain_under(circuit, number))))
                self.assertIs(type(told), tuple)

    def test_chain(self):
        self.assertEqual(names_under((("a",), chain_circuit(A)[1]), 119), ("a",))


class Refused(unittest.TestCase):
    def test_no_number(self):
        circuit = of(A, TRUE)
        for number in (2, 3, -1, -2, 10 ** 59, -(10 ** 59)):
            for told in (lambda: names_under(circuit, number), lambda: node_met(circuit, number, (True, True))):
                with self.assertRaises(NoNumber) as caught:
                    told()
                self.assertEqual(caught.exception.number, number)
                self.assertIsInstance(caught.exception, LackError)


class Meets(unittest.TestCase):
    def test_each_kind(self):
        circuit = of(
            TRUE, FALSE, A, NOT_A, ("and", ()), ("or", (), ()), ("and", (0, 2)), ("or", (1, 2), (OUT,)),
            ("split", "b", 2, 3), ("and", (2, 3)), ("or", (2, 3), (CASE,)), ("or", (3, 3), (OUT,)))
        wanted = {
            (False, False): [1, 0, 0, 1, 1, 0, 0, 0, 0, 0, 1, 1], (False, True): [1, 0, 0, 1, 1, 0, 0, 0, 1, 0, 1, 1],
            (True, False): [1, 0, 1, 0, 1, 0, 1, 1, 1, 0, 1, 0], (True, True): [1, 0, 1, 0, 1, 0, 1, 1, 0, 0, 1, 0]}
        for row, truths in wanted.items():
            for number, truth in enumerate(truths):
                self.assertIs(node_met(circuit, number, row), bool(truth), (number, row))

    def test_of_many(self):
        for circuit in [*MANY[:120], *built_circuits(20)]:
            names, nodes = circuit
            for row in plain_rows_of(names):
                for number in range(len(nodes)):
                    self.assertIs(node_met(circuit, number, tuple(row.values())), plain_met(nodes, number, row))
                self.assertIs(met_by(circuit, tuple(row.values())), plain_met(nodes, len(nodes) - 1, row))

    def test_root_is_the_last(self):
        self.assertIs(met_by(of(TRUE, FALSE), (True, True)), False)
        self.assertIs(met_by(of(FALSE, TRUE), (True, True)), True)
        self.assertEqual(plain_ways(of(TRUE, A)), [(True, False), (True, True)])

    def test_chain(self):
        self.assertIs(met_by(chain_circuit(), ()), True)
        self.assertIs(met_by(chain_circuit(FALSE), ()), False)

    def test_by_name(self):
        self.assertIs(met_by(row=(True,), circuit=(("a",), (A,))), True)
        self.assertIs(node_met(row=(True,), node=0, circuit=(("a",), (A,))), True)
        self.assertEqual(names_under(node=0, circuit=(("a",), (A,))), ("a",))


class Decomposed(unittest.TestCase):
    def test_and(self):
        self.assertIs(is_decomposed(of(A, B, ("and", (0, 1)))), True)
        self.assertIs(is_decomposed(of(A, NOT_A, ("and", (0, 1)))), False)
        self.assertIs(is_decomposed(of(A, ("or", (0,), ()), B, ("and", (0, 2, 1)))), False)
        self.assertIs(is_decomposed(of(A, B, ("split", "a", 1, 1), ("and", (1, 2)))), False)

    def test_a_node_twice(self):
        self.assertIs(is_decomposed(of(A, ("and", (0, 0)))), False)
        self.assertIs(is_decomposed(of(TRUE, ("and", (0, 0)))), True)
        self.assertIs(is_decomposed(chain_circuit()), True)

    def test_split(self):
        self.assertIs(is_decomposed(of(B, TRUE, ("split", "a", 0, 1))), True)
        self.assertIs(is_decomposed(of(B, ("split", "a", 0, 0))), True)
        self.assertIs(is_decomposed(of(A, TRUE, ("split", "a", 0, 1))), False)
        self.assertIs(is_decomposed(of(NOT_A, TRUE, ("split", "a", 1, 0))), False)
        self.assertIs(is_decomposed(of(B, TRUE, ("split", "a", 0, 1), ("split", "a", 1, 2))), False)

    def test_or_may_share(self):
        self.assertIs(is_decomposed(of(A, ("or", (0, 0), (OUT,)))), True)

    def test_reached_alone(self):
        self.assertIs(is_decomposed(of(A, ("and", (0, 0)), TRUE)), True)
        self.assertIs(is_decomposed(of(A, ("and", (0, 0)), ("or", (1,), ()))), False)
        self.assertIs(is_decomposed(of(A, ("split", "a", 0, 0), B)), True)

    def test_papers_aside(self):
        self.assertIs(is_decomposed(of(B, ("or", (0, 0), (CASE,)), A, ("and", (1, 2)))), True)

    def test_of_many(self):
        told = [is_decomposed(circuit) for circuit in MANY]
        self.assertEqual(told, [plain_decomposed(circuit) for circuit in MANY])
        self.assertEqual(set(told), {True, False})
        for circuit in [*built_circuits(30), *compiled_circuits(60)]:
            self.assertIs(is_decomposed(circuit), True)

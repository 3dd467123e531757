"""Points 63, 68: DIAGRAMS of both, of one or both, of all other ROWS; put in, forgotten in."""

import copy
import unittest

from tests.circuit_samples import some_circuits
from tests.diagram_samples import NAMES, ORDERS, all_orders, all_small_diagrams, all_ways, kinds, plain_diagram, \
    plain_met_rows, some_diagrams, some_rows
from tests.samples import Mixer, some_of
from waycircuits.conditioning import conditioned
from waycircuits.diagrams import diagram_count, is_diagram
from waycircuits.drawing import diagram_from, diagram_of
from waycircuits.errors import LackError, NoName, NoParting
from waycircuits.forgetting import forgotten
from waycircuits.joining import both, either_one, forgotten_in, other_way, put_in

AB = ("a", "b")
A_IS, B_IS = (AB, (("a", False, True),)), (AB, (("b", False, True),))


def some_literals(seed, names):
    mixer = Mixer(seed + 31)
    return tuple((name, bool(mixer.below(2))) for name in some_of(seed, tuple(sorted(names))))


def left_of(names, rows, others):
    """What is left of ROWS of the names without those others, a set."""
    return {tuple(truth for name, truth in zip(names, row) if name not in others) for row in rows}


class Case(unittest.TestCase):
    def check(self, told, order, rows):
        self.assertIs(is_diagram(told), True)
        wanted = plain_diagram(order, set(rows))
        self.assertEqual(told[0], wanted[0])
        self.assertEqual(kinds(told[1]), kinds(wanted[1]))

    def pairs(self):
        for order in all_orders(AB):
            diagrams = all_small_diagrams(order)
            for one in diagrams:
                for other in diagrams:
                    yield one, other
        for seed in range(60):
            order = ORDERS[seed % len(ORDERS)]
            yield plain_diagram(order, some_rows(seed)), plain_diagram(order, some_rows(seed * 3 + 100))


class TwoOfThem(Case):
    def test_small_ones(self):
        self.assertEqual(both(A_IS, B_IS), (AB, (("b", False, True), ("a", False, 0))))
        self.assertEqual(either_one(A_IS, B_IS), (AB, (("b", False, True), ("a", 0, True))))
        self.assertEqual(both(other=A_IS, one=(AB, False)), (AB, False))
        self.assertEqual(either_one(other=A_IS, one=(AB, True)), (AB, True))
        for one in (False, True):
            for other in (False, True):
                self.assertIs(both(((), one), ((), other))[1], one and other)
                self.assertIs(either_one(((), one), ((), other))[1], one or other)

    def test_of_many(self):
        for one, other in self.pairs():
            before = copy.deepcopy((one, other))
            first, second = plain_met_rows(one), plain_met_rows(other)
            self.check(both(one, other), one[0], first & second)
            self.check(either_one(one, other), one[0], first | second)
            self.assertEqual((one, other), before)

    def test_counts_of_both_and_either_added(self):
        for one, other in self.pairs():
            self.assertEqual(diagram_count(both(one, other)) + diagram_count(either_one(one, other)),
                             diagram_count(one) + diagram_count(other))

    def test_with_itself_and_its_other_way(self):
        for diagram in some_diagrams():
            order = diagram[0]
            self.assertEqual(kinds(both(diagram, diagram)[1]), kinds(diagram[1]))
            self.assertEqual(kinds(either_one(diagram, diagram)[1]), kinds(diagram[1]))
            self.assertEqual(both(diagram, other_way(diagram)), (order, False))
            self.assertEqual(either_one(other_way(diagram), diagram), (order, True))


class OtherWay(Case):
    def test_small_ones(self):
        self.assertEqual(other_way(A_IS), (AB, (("a", True, False),)))
        self.assertIs(other_way(((), True))[1], False)
        self.assertIs(other_way(diagram=(AB, False))[1], True)

    def test_of_many(self):
        for order in all_orders(AB):
            for diagram in all_small_diagrams(order):
                self.check(other_way(diagram), order, set(all_ways(AB)) - plain_met_rows(diagram))
        for diagram in some_diagrams():
            before = copy.deepcopy(diagram)
            told = other_way(diagram)
            self.check(told, diagram[0], set(all_ways(NAMES)) - plain_met_rows(diagram))
            self.assertEqual(kinds(other_way(told)[1]), kinds(diagram[1]))
            self.assertEqual(diagram, before)


class PutIn(Case):
    def check_put(self, diagram, literals):
        before = copy.deepcopy(diagram)
        told = put_in(diagram, literals)
        self.assertEqual(diagram, before)
        names = tuple(sorted(diagram[0]))
        rows = [row for row in plain_met_rows(diagram)
                if all(row[names.index(name)] is truth for name, truth in literals)]
        self.check(told, tuple(name for name in diagram[0] if name not in dict(literals)),
                   left_of(names, rows, dict(literals)))
        return told

    def test_small_ones(self):
        diagram = (("b", "a"), (("a", False, True), ("b", False, 0)))
        self.assertEqual(put_in(diagram, (("a", True),)), (("b",), (("b", False, True),)))
        self.assertEqual(put_in(diagram, (("a", False),)), (("b",), False))
        self.assertEqual(put_in(literals=(("a", True), ("b", True)), diagram=diagram), ((), True))
        self.assertEqual(put_in(((), True), ()), ((), True))

    def test_of_many(self):
        for seed, diagram in enumerate(some_diagrams()):
            for more in range(3):
                self.check_put(diagram, some_literals(seed * 3 + more, diagram[0]))

    def test_none_and_all(self):
        for seed, diagram in enumerate(some_diagrams()):
            self.assertEqual(kinds(put_in(diagram, ())[1]), kinds(diagram[1]))
            self.assertEqual(put_in(diagram, ())[0], diagram[0])
            mixer = Mixer(seed)
            literals = tuple((name, bool(mixer.below(2))) for name in NAMES)
            self.assertEqual(self.check_put(diagram, literals)[0], ())

    def test_names_that_stand_in_no_split(self):
        for truth in (False, True):
            self.assertEqual(put_in((("c", "a", "b"), (("a", False, True),)), (("b", truth),)),
                             (("c", "a"), (("a", False, True),)))

    def test_of_what_is_conditioned(self):
        for seed, circuit in enumerate(some_circuits()[::3]):
            order = circuit[0][::-1]
            literals = some_literals(seed, circuit[0])
            left = tuple(name for name in order if name not in dict(literals))
            told = put_in(diagram_from(circuit, order=order), literals)
            self.assertEqual(kinds(told[1]), kinds(diagram_from(conditioned(circuit, literals), order=left)[1]))

    def test_no_name(self):
        diagram = (("d", "b"), (("b", False, True),))
        for literals, name in (
                ((("a", True),), "a"), ((("a", True), ("c", False)), "a"), ((("b", True), ("c", False), ("e", True)), "c"),
                ((("b", True), ("d", True), ("e", True)), "e")):
            with self.assertRaises(NoName) as caught:
                put_in(diagram, literals)
            self.assertEqual(caught.exception.name, name)
            self.assertIsInstance(caught.exception, LackError)
        with self.assertRaises(NoName):
            put_in(((), False), (("a", True),))


class ForgottenIn(Case):
    def check_forgotten(self, diagram, names):
        before = copy.deepcopy(diagram)
        told = forgotten_in(diagram, names)
        self.assertEqual(diagram, before)
        self.check(told, tuple(name for name in diagram[0] if name not in names),
                   left_of(tuple(sorted(diagram[0])), plain_met_rows(diagram), names))
        return told

    def test_small_ones(self):
        diagram = (("b", "a"), (("a", False, True), ("b", False, 0)))
        self.assertEqual(forgotten_in(diagram, ("a",)), (("b",), (("b", False, True),)))
        self.assertEqual(forgotten_in(names=("a", "b"), diagram=diagram), ((), True))
        self.assertEqual(forgotten_in((AB, False), AB), ((), False))
        self.assertEqual(forgotten_in((AB, False), ("b",)), (("a",), False))
        self.assertEqual(forgotten_in(diagram_of((AB, ((("a", True), ("b", True)),))), ("b",)), (("a",), True))

    def test_of_many(self):
        for seed, diagram in enumerate(some_diagrams()):
            for more in range(3):
                self.check_forgotten(diagram, some_of(seed * 3 + more, NAMES))

    def test_none_and_all(self):
        for diagram in some_diagrams():
            self.assertEqual(kinds(forgotten_in(diagram, ())[1]), kinds(diagram[1]))
            self.assertIs(self.check_forgotten(diagram, NAMES)[1], diagram[1] is not False)

    def test_of_what_is_forgotten(self):
        refused = set()
        for seed, circuit in enumerate(some_circuits()[::3]):
            order = circuit[0][::-1]
            names = some_of(seed, circuit[0])
            told = forgotten_in(diagram_from(circuit, order=order), names)
            try:
                left = forgotten(circuit, names)
            except NoParting:
                refused.add(True)
                continue
            refused.add(False)
            self.assertEqual(kinds(told[1]), kinds(diagram_from(left, order=told[0])[1]))
        self.assertEqual(refused, {True, False})

    def test_no_name(self):
        diagram = (("d", "b"), (("b", False, True),))
        for names, name in ((("a",), "a"), (("a", "c"), "a"), (("b", "c", "e"), "c"), (("b", "d", "e"), "e")):
            with self.assertRaises(NoName) as caught:
                forgotten_in(diagram, names)
            self.assertEqual(caught.exception.name, name)
            self.assertIsInstance(caught.exception, LackError)
        with self.assertRaises(NoName):
            forgotten_in(((), True), ("a",))

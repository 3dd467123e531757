"""Points 8, 61: whether any thing is a REDUCED DIAGRAM, whether a ROW MEETS a DIAGRAM, its COUNT."""

import copy
import unittest
from itertools import product

from tests.diagram_samples import all_orders, all_small_diagrams, all_ways, kinds, plain_met_rows, some_diagrams
from tests.samples import deep, strange_things, words_of
from waycircuits.diagrams import diagram_count, diagram_met, is_diagram

AB = ("a", "b")
B_IS, B_ISNT = ("b", False, True), ("b", True, False)


def splits_by_kind(names, number, sides=(False, True)):
    """Each split that there can be by kind at this number."""
    reachable = [*sides, *range(number)]
    return [(name, low, high) for name in names for low in reachable for high in reachable]


class Is(unittest.TestCase):
    def test_all_small_ones(self):
        """Of two names, with up to three splits, it is just one for each set of ROWS."""
        for order in all_orders(AB):
            wanted = {kinds(splits) for _, splits in all_small_diagrams(order)}
            self.assertEqual(len(wanted), 16)
            found = {splits for splits in (False, True) if is_diagram((order, splits))}
            for many in range(1, 4):
                for splits in product(*[splits_by_kind(AB, number) for number in range(many)]):
                    if is_diagram((order, splits)):
                        found.add(kinds(splits))
            self.assertEqual(found, wanted)

    def test_those_of_many(self):
        for diagram in some_diagrams():
            self.assertIs(is_diagram(diagram), True)
        for order in all_orders(("a", "b", "c")):
            for splits in (False, True):
                self.assertIs(is_diagram((order, splits)), True)

    def test_no_names(self):
        self.assertIs(is_diagram(((), False)), True)
        self.assertIs(is_diagram(((), True)), True)
        for splits in ((), 0, 1, None, (("a", False, True),), "", [], (False,), (True,)):
            self.assertIs(is_diagram(((), splits)), False)

    def test_orders_that_dont_rise(self):
        self.assertIs(is_diagram((("b", "a"), (("a", False, True), ("b", False, 0)))), True)
        self.assertIs(is_diagram((("a", "b"), (("a", False, True), ("b", False, 0)))), False)
        self.assertIs(is_diagram((("a", "b"), (B_IS, ("a", False, 0)))), True)
        self.assertIs(is_diagram((("b", "a"), (B_IS, ("a", False, 0)))), False)

    def test_orders_by_kind(self):
        for order in (("a", "a"), ("a", "b", "a"), ["a", "b"], ("a", "B"), ("a", ""), ("a", 1), ("a", None), "ab", None,
                      ("a", ("b",)), ("a", ["b"]), ("abcdefghi",), {"a": 1}):
            for splits in (False, True, (("a", False, True),)):
                self.assertIs(is_diagram((order, splits)), False)

    def test_one_and_nought_are_no_truths(self):
        self.assertIs(is_diagram((AB, 1)), False)
        self.assertIs(is_diagram((AB, 0)), False)
        self.assertIs(is_diagram((("a",), (("a", False, True),))), True)
        for low, high in ((0, 1), (0, True), (False, 1), (1, False), (True, 0)):
            self.assertIs(is_diagram((("a",), (("a", low, high),))), False)

    def test_nought_and_false_are_unlike(self):
        # of both the second split is Python's equal, but in the one nothing comes to the first
        self.assertIs(is_diagram((AB, (B_IS, ("a", 0, True)))), True)
        self.assertIs(is_diagram((AB, (B_IS, ("a", False, True)))), False)
        self.assertIs(is_diagram((AB, (B_IS, ("a", False, 0)))), True)
        self.assertIs(is_diagram((AB, (B_IS, ("a", 0, False)))), True)
        self.assertIs(is_diagram((AB, (B_IS, B_ISNT, ("a", 0, 1)))), True)
        self.assertIs(is_diagram((AB, (B_IS, B_ISNT, ("a", False, 1)))), False)
        self.assertIs(is_diagram((AB, (B_IS, B_ISNT, ("a", 0, True)))), False)

    def test_alike_and_numbers_ahead(self):
        self.assertIs(is_diagram((AB, (B_IS, B_IS, ("a", 0, 1)))), False)
        self.assertIs(is_diagram((AB, (B_ISNT, B_IS, ("a", 0, 1)))), False)

    def test_sides_alike(self):
        for side in (False, True):
            self.assertIs(is_diagram((("a",), (("a", side, side),))), False)
        self.assertIs(is_diagram((AB, (B_IS, ("a", 0, 0)))), False)

    def test_splits_that_nothing_comes_to(self):
        self.assertIs(is_diagram((AB, (B_IS, B_ISNT, ("a", 0, True)))), False)
        self.assertIs(is_diagram((("a", "b", "c"), (("c", False, True), ("b", 0, True), ("a", 0, True)))), False)
        self.assertIs(is_diagram((AB, (B_IS, B_ISNT))), False)

    def test_numbers_that_arent_ahead(self):
        for side in (0, 1, 2, -1, -2, 10 ** 59):
            self.assertIs(is_diagram((("a",), (("a", False, side),))), False)
            self.assertIs(is_diagram((("a",), (("a", side, False),))), False)
        for side in (1, 2, -1, -2):
            self.assertIs(is_diagram((AB, (B_IS, ("a", 0, side)))), False)

    def test_names_out_of_the_orders(self):
        for name in ("c", "ab", "", "A", "a ", 1, None, True, ("b",), ["b"]):
            self.assertIs(is_diagram((AB, ((name, False, True),))), False)
            self.assertIs(is_diagram((AB, ((name, False, True), ("a", False, 0)))), False)

    def test_a_name_that_leads_to_its_own(self):
        self.assertIs(is_diagram((AB, (B_IS, ("b", 0, False)))), False)
        self.assertIs(is_diagram((AB, (B_IS, ("b", False, 0)))), False)
        self.assertIs(is_diagram((("a", "b", "c"), (("c", False, True), ("b", False, 0), ("b", False, 1)))), False)

    def test_of_one_name_as_they_rise(self):
        order = ("a", "b", "c")
        rising = [("b", False, True), ("b", False, 0), ("b", True, False), ("b", True, 0), ("b", 0, False), ("b", 0, True)]
        for one, first in enumerate(rising):
            for other, second in enumerate(rising):
                splits = (("c", False, True), first, second, ("a", 1, 2))
                if not any(type(side) is int for split in (first, second) for side in split[1:]):
                    splits = (first, second, ("a", 0, 1))
                self.assertIs(is_diagram((order, splits)), one < other, splits)

    def test_splits_by_kind(self):
        for splits in (
                (), [], None, [("a", False, True)], ("a", False, True), (("a", False),), (("a", False, True, True),),
                (["a", False, True],), (("a", "False", True),), (("a", None, True),), (("a", False, (True,)),), ((),),
                (("a", False, 1.5),), "a"):
            self.assertIs(is_diagram((AB, splits)), False)

    def test_strange_things(self):
        for thing in strange_things():
            self.assertIs(is_diagram(thing), thing == (("a",), True))
            self.assertIs(is_diagram((AB, thing)), isinstance(thing, bool))
            self.assertIs(is_diagram((AB, (thing,))), False)
            self.assertIs(is_diagram(((thing,), False)), False)
            self.assertIs(is_diagram((AB, False, thing)), False)
            self.assertIs(is_diagram([AB, thing]), False)
        self.assertIs(is_diagram((deep(28), deep(28))), False)

    def test_hundreds_of_names(self):
        names = words_of(600)
        splits = [(name, False, at - 1 if at else True) for at, name in enumerate(names[::-1])]
        before = copy.deepcopy(splits)
        self.assertIs(is_diagram((names, tuple(splits))), True)
        self.assertIs(is_diagram((names, False)), True)
        self.assertIs(is_diagram((names + names[:1], False)), False)
        self.assertEqual(splits, before)
        splits[300] = (splits[300][0], False, 298)
        self.assertIs(is_diagram((names, tuple(splits))), False)

    def test_by_name(self):
        self.assertIs(is_diagram(thing=((), True)), True)


class Met(unittest.TestCase):
    def test_small_ones(self):
        diagram = (("b", "a"), (("a", False, True), ("b", False, 0)))
        self.assertEqual([diagram_met(diagram, row) for row in all_ways(AB)], [False, False, False, True])
        diagram = (("b", "a"), (("a", False, True), ("b", True, 0)))
        # ROWS rise with the names, whatever the ORDER is
        self.assertEqual([diagram_met(diagram, row) for row in all_ways(AB)], [True, False, True, True])
        self.assertIs(diagram_met(((), True), ()), True)
        self.assertIs(diagram_met(((), False), ()), False)
        self.assertIs(diagram_met(row=(True, False), diagram=(AB, True)), True)

    def test_of_many(self):
        for diagram in some_diagrams():
            before = copy.deepcopy(diagram)
            met = plain_met_rows(diagram)
            for way in all_ways(diagram[0]):
                self.assertIs(diagram_met(diagram, way), way in met)
            self.assertEqual(diagram, before)

    def test_hundreds_of_names(self):
        names = words_of(400)
        diagram = (names[::-1], tuple((name, False, at - 1 if at else True) for at, name in enumerate(names)))
        self.assertIs(diagram_met(diagram, (True,) * 400), True)
        self.assertIs(diagram_met(diagram, (True,) * 200 + (False,) + (True,) * 199), False)
        self.assertEqual(diagram_count(diagram), 1)


class Count(unittest.TestCase):
    def test_small_ones(self):
        self.assertEqual(diagram_count(((), True)), 1)
        self.assertEqual(diagram_count(((), False)), 0)
        self.assertEqual(diagram_count((AB, True)), 4)
        self.assertEqual(diagram_count((AB, False)), 0)
        self.assertEqual(diagram_count(diagram=(("b", "c", "a"), (("a", False, True), ("b", 0, True)))), 6)

    def test_of_many(self):
        for diagram in some_diagrams():
            told = diagram_count(diagram)
            self.assertIs(type(told), int)
            self.assertEqual(told, len(plain_met_rows(diagram)))

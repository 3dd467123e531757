"""Points 65, 66, 68: a FEWEST PAPER that SHOWS as many heads as the DIAGRAM has splits."""

import copy
import unittest
from itertools import combinations

from tests.diagram_samples import all_orders, all_small_diagrams, some_diagrams
from tests.samples import form_of_threes, words_of
from waycircuits.drawing import diagram_of
from waycircuits.fewest import fewest_paper
from waycircuits.fewestchecker import lets_fewest

AB = ("a", "b")


def met(diagram, way):
    """Whether a way, its truths as the ORDER has the names, leads to True."""
    order, side = diagram
    while not isinstance(side, bool):
        name, low, high = diagram[1][-1 if isinstance(side, tuple) else side]
        side = high if way[order.index(name)] else low
    return side


def shown_by(diagram, paper):
    """How many heads there are in all, where all is so that a FEWEST PAPER tells; else None."""
    order = diagram[0]
    if type(paper) is not tuple or len(paper) != len(order):
        return None
    for at, (heads, turns, parts) in enumerate(paper):
        pairs = list(combinations(heads, 2))
        if len(turns) != len(heads) or len(parts) != len(pairs):
            return None
        ways = [((*head, False, *turn), (*head, True, *turn)) for head, turn in zip(heads, turns)]
        ways += [((*one, *part), (*other, *part)) for (one, other), part in zip(pairs, parts)]
        if any(len(head) != at for head in heads) or any(len(way) != len(order) for two in ways for way in two):
            return None
        if any(met(diagram, one) is met(diagram, other) for one, other in ways):
            return None
    return sum(len(heads) for heads, _, _ in paper)


class Fewest(unittest.TestCase):
    def check(self, diagram):
        before = copy.deepcopy(diagram)
        paper = fewest_paper(diagram)
        self.assertEqual(diagram, before)
        many = 0 if isinstance(diagram[1], bool) else len(diagram[1])
        self.assertEqual(shown_by(diagram, paper), many)
        self.assertEqual(lets_fewest(diagram, paper), many)
        for triple in paper:
            self.assertEqual([type(some) for some in triple], [tuple] * 3)
            self.assertTrue(all(type(truth) is bool for some in triple for truths in some for truth in truths))
        return paper

    def test_small_ones(self):
        self.assertEqual(fewest_paper(((), True)), ())
        self.assertEqual(fewest_paper((AB, False)), (((), (), ()), ((), (), ())))
        self.assertEqual(fewest_paper(diagram=(("a",), (("a", False, True),))), ((((),), ((),), ()),))
        paper = self.check((AB, (("b", False, True), ("b", True, False), ("a", 0, 1))))
        heads, turns, parts = paper[1]
        self.assertEqual((sorted(heads), turns), ([(False,), (True,)], ((), ())))
        self.assertIn(parts, (((False,),), ((True,),)))

    def test_all_small_ones(self):
        for order in all_orders(AB):
            for diagram in all_small_diagrams(order):
                self.check(diagram)

    def test_of_many(self):
        for diagram in some_diagrams(150):
            self.check(diagram)

    def test_names_that_stand_in_no_split(self):
        self.check((("z", "a", "y", "b", "x"), (("b", False, True), ("a", False, 0))))
        self.check((("z", "a", "y", "b", "x"), (("x", False, True),)))

    def test_eight_names(self):
        for seed in range(6):
            form = form_of_threes(seed, 8, 14)
            self.check(diagram_of(form, order=form[0][::-1]))

    def test_a_hundred_names(self):
        names = words_of(100)
        self.check(diagram_of((names, tuple(((one, False), (other, True)) for one, other in zip(names, names[1:])))))

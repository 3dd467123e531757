"""Point 64: the least ROW that MEETS one of two DIAGRAMS alone."""

import copy
import unittest

from tests.diagram_samples import NAMES, ORDERS, all_orders, all_small_diagrams, kinds, plain_diagram, plain_met_rows, \
    some_diagrams, some_rows
from tests.samples import words_of
from waycircuits.joining import other_way
from waycircuits.same import same_or_row

AB = ("a", "b")


class Same(unittest.TestCase):
    def check(self, one, other):
        before = copy.deepcopy((one, other))
        told = same_or_row(one, other)
        self.assertEqual((one, other), before)
        apart = plain_met_rows(one) ^ plain_met_rows(other)
        self.assertEqual(told, min(apart) if apart else None)
        if told is not None:
            self.assertEqual([type(truth) for truth in told], [bool] * len(one[0]))
        if one[0] == other[0]:
            self.assertEqual(told is None, kinds(one[1]) == kinds(other[1]))
        return told

    def test_small_ones(self):
        a_is, b_is = (("b", "a"), (("a", False, True),)), (AB, (("b", False, True),))
        self.assertEqual(same_or_row(a_is, b_is), (False, True))
        self.assertEqual(same_or_row(other=a_is, one=b_is), (False, True))
        self.assertIsNone(same_or_row(a_is, (AB, (("a", False, True),))))
        self.assertEqual(same_or_row((AB, False), (("b", "a"), True)), (False, False))
        self.assertEqual(same_or_row(((), False), ((), True)), ())
        self.assertIsNone(same_or_row(((), True), ((), True)))

    def test_all_small_ones(self):
        for one in [diagram for order in all_orders(AB) for diagram in all_small_diagrams(order)]:
            for other in [diagram for order in all_orders(AB) for diagram in all_small_diagrams(order)]:
                self.check(one, other)

    def test_of_many(self):
        told = set()
        for seed, one in enumerate(some_diagrams()):
            for order in ORDERS:
                told.add(self.check(one, plain_diagram(order, some_rows(seed * 3 + 100))) is None)
        self.assertEqual(told, {True, False})

    def test_of_the_same_rows(self):
        for one in some_diagrams():
            for order in ORDERS:
                self.assertIsNone(self.check(one, plain_diagram(order, plain_met_rows(one))))

    def test_just_one_row_apart(self):
        for seed, one in enumerate(some_diagrams()):
            rows = plain_met_rows(one)
            row = tuple(bool(seed * 7 + 3 >> at & 1) for at in range(len(NAMES)))
            self.assertEqual(self.check(one, plain_diagram(ORDERS[seed % 2], rows ^ {row})), row)

    def test_with_its_other_way(self):
        for one in some_diagrams():
            self.assertEqual(self.check(one, other_way(one)), (False,) * len(NAMES))

    def test_python_takes_them_for_equal(self):
        # a leads to False in the one, to split 0 in the other: unlike, though == says no
        order = ("a", "b", "c")
        lower = (("c", False, True), ("b", True, 0))
        one, other = (order, (*lower, ("a", False, 1))), (order, (*lower, ("a", 0, 1)))
        self.assertEqual(one, other)
        self.assertEqual(self.check(one, other), (False, False, True))

    def test_hundreds_of_names(self):
        names = words_of(150)
        one = (names, tuple((name, False, at - 1 if at else True) for at, name in enumerate(names[::-1])))
        other = (names[::-1], tuple((name, False, at - 1 if at else True) for at, name in enumerate(names)))
        self.assertIsNone(same_or_row(one, other))
        self.assertEqual(same_or_row(one, (names, False)), (True,) * 150)

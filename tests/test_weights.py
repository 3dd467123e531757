"""Points 5, 16, 17: FRACTIONS, WEIGHTS, what ROWS and FORMS weigh."""

import copy
import unittest
from fractions import Fraction

from tests.samples import mixed_forms, plain_models, strange_things, words_of
from waycircuits.forms import names_in
from waycircuits.fractions import NOUGHT, ONE, is_fraction, plus, times
from waycircuits.grouping import groups
from waycircuits.rows import count_by_rows, models
from waycircuits.weights import is_weights, weigh_by_rows, weight_of

SOME = ((0, 1), (1, 1), (-1, 1), (1, 2), (-3, 4), (2, 3), (7, 1), (-5, 6), (99, 98))
WEIGHTS = (("a", (1, 2), (-3, 4)), ("c", (0, 1), (5, 1)), ("d", (2, 3), (-2, 3)), ("zz", (9, 1), (9, 1)))


def as_fraction(pair):
    return Fraction(*pair)


def as_pair(fraction):
    return (fraction.numerator, fraction.denominator)


def plain_weight(row, weights, free):
    """The WEIGHT of a ROW, a dict."""
    told = {name: (no, yes) for name, no, yes in weights}
    weight = Fraction(1)
    for name, truth in row.items():
        weight *= as_fraction(told.get(name, (free, free))[truth])
    return weight


class Fractions(unittest.TestCase):
    def test_numbers_of_the_module(self):
        self.assertEqual((ONE, NOUGHT), ((1, 1), (0, 1)))

    def test_is_fraction(self):
        for thing in (*SOME, (10 ** 59, 1), (-(10 ** 59), 10 ** 59 + 1), (1, 10 ** 59)):
            self.assertIs(is_fraction(thing), True, thing)

    def test_not_in_lowest_terms(self):
        for thing in ((2, 2), (0, 2), (2, 4), (-3, 6), (10 ** 59, 10), (6, 3), (0, 10 ** 59)):
            self.assertIs(is_fraction(thing), False, thing)

    def test_under_0_or_below(self):
        for thing in ((1, 0), (0, 0), (1, -1), (0, -1), (-1, -2), (-1, 0)):
            self.assertIs(is_fraction(thing), False, thing)

    def test_a_truth_in_a_numbers_place(self):
        for thing in ((True, 1), (1, True), (False, 1), (True, True), (0, True), (3, True)):
            self.assertIs(is_fraction(thing), False, thing)

    def test_other_kinds(self):
        for thing in ([1, 1], (1,), (1, 1, 1), ("1", 1), (1, "1"), (1, None), ((1, 1), 1), *strange_things()):
            self.assertIs(is_fraction(thing), False, thing)

    def test_plus_and_times(self):
        self.assertEqual(plus((1, 2), (1, 2)), (1, 1))
        self.assertEqual(plus((-3, 4), (3, 4)), (0, 1))
        self.assertEqual(times((0, 1), (-5, 6)), (0, 1))
        self.assertEqual(times((-2, 3), (-3, 2)), (1, 1))
        for one in SOME:
            for other in SOME:
                self.assertEqual(plus(one, other), as_pair(as_fraction(one) + as_fraction(other)))
                self.assertEqual(times(one, other), as_pair(as_fraction(one) * as_fraction(other)))
                self.assertIs(is_fraction(plus(one=one, other=other)), True)
                self.assertIs(is_fraction(times(one=one, other=other)), True)

    def test_what_is_told_may_be_handed_in_again(self):
        total, product = NOUGHT, ONE
        for number in range(2, 99):
            total = plus(total, (1, number))
            product = times(product, (number, number + 1))
        self.assertEqual(total, as_pair(sum((Fraction(1, number) for number in range(2, 99)), Fraction(0))))
        self.assertEqual(product, (2, 99))


class Weights(unittest.TestCase):
    def test_is_weights(self):
        for thing in ((), (("a", ONE, NOUGHT),), WEIGHTS, tuple((name, ONE, (-1, 2)) for name in words_of(400))):
            self.assertIs(is_weights(thing), True, thing)

    def test_is_no_weights(self):
        good = ("a", ONE, NOUGHT)
        for thing in (
                [], [good], good, (good, good), (("b", ONE, ONE), good), (good, ("a", NOUGHT, ONE)),
                (["a", ONE, NOUGHT],), (("a", ONE),), (("a", ONE, ONE, ONE),), (("A", ONE, ONE),), ((1, ONE, ONE),),
                (("a", 1, 1),), (("a", (2, 2), ONE),), (("a", ONE, (0, 2)),), (("a", ONE, (True, 1)),),
                (("a", [1, 1], ONE),), (good, None), ((),), None, 0, True, "a", ("a",), tuple(reversed(WEIGHTS))):
            self.assertIs(is_weights(thing), False, thing)

    def test_any_thing(self):
        things = strange_things()
        before = copy.deepcopy(things)
        for thing in things:
            self.assertIs(is_weights(thing), False)
        self.assertEqual(things, before)

    def test_weight_of(self):
        self.assertEqual(weight_of((), (), ()), ONE)
        self.assertEqual(weight_of((), (), WEIGHTS, free=(7, 2)), ONE)
        self.assertEqual(weight_of(("a",), (False,), WEIGHTS), (1, 2))
        self.assertEqual(weight_of(("a",), (True,), WEIGHTS), (-3, 4))
        self.assertEqual(weight_of(("a", "b", "d"), (True, True, True), WEIGHTS), (1, 2))
        self.assertEqual(weight_of(("a", "b", "d"), (True, True, True), WEIGHTS, free=(1, 3)), (1, 6))
        self.assertEqual(weight_of(("b", "c"), (True, False), WEIGHTS), NOUGHT)

    def test_weight_of_many(self):
        names = ("a", "b", "c", "d")
        for row in plain_models((names, ())):
            for free in ((1, 1), (0, 1), (-2, 5)):
                told = weight_of(names, tuple(row.values()), WEIGHTS, free=free)
                self.assertEqual(told, as_pair(plain_weight(row, WEIGHTS, free)))

    def test_other_names_turn_nothing(self):
        self.assertEqual(weight_of(("b",), (True,), WEIGHTS, free=(2, 1)), (2, 1))
        self.assertEqual(weigh_by_rows((("b",), ()), WEIGHTS), (2, 1))

    def test_weigh_by_rows(self):
        for form in mixed_forms(30):
            for free in ((1, 1), (0, 1), (3, 2)):
                wanted = sum((plain_weight(row, WEIGHTS, free) for row in plain_models(form)), Fraction(0))
                self.assertEqual(weigh_by_rows(form, WEIGHTS, free=free), as_pair(wanted))

    def test_nought_of_no_models(self):
        self.assertEqual(weigh_by_rows((("a",), ((),)), WEIGHTS), NOUGHT)
        self.assertEqual(weigh_by_rows(((), ((),)), ()), NOUGHT)
        self.assertEqual(weigh_by_rows(((), ()), (), free=NOUGHT), ONE)

    def test_without_weights_by_free_one_it_is_the_count(self):
        for form in mixed_forms(30):
            self.assertEqual(weigh_by_rows(form, ()), (count_by_rows(form), 1))
            self.assertEqual(weigh_by_rows(form, (), free=ONE), (count_by_rows(form), 1))
            self.assertEqual(weigh_by_rows(form, (), free=NOUGHT), NOUGHT)

    def test_a_name_in_no_clause_multiplies(self):
        form = (("a", "c"), ((("a", True), ("c", True)),))
        more = (("a", "b", "c"), form[1])
        weights = (("a", (1, 2), (3, 4)), ("b", (5, 6), (1, 3)))
        self.assertEqual(weigh_by_rows(more, weights), times(weigh_by_rows(form, weights), (7, 6)))
        undone = (("a", (1, 2), (3, 4)), ("b", (-1, 3), (1, 3)))
        self.assertTrue(models(more))
        self.assertEqual(weigh_by_rows(more, undone), NOUGHT)

    def test_groups_weigh_so(self):
        for form in mixed_forms(40, most=5, size=2):
            product = ONE
            for group in groups(form[1]):
                product = times(product, weigh_by_rows((names_in(group), group), WEIGHTS, free=(2, 3)))
            for name in form[0]:
                if name not in names_in(form[1]):
                    product = times(product, weigh_by_rows(((name,), ()), WEIGHTS, free=(2, 3)))
            self.assertEqual(product, weigh_by_rows(form, WEIGHTS, free=(2, 3)))

    def test_free_by_name_alone(self):
        self.assertEqual(weight_of(weights=(), row=(True,), names=("a",), free=(1, 3)), (1, 3))
        self.assertEqual(weigh_by_rows(weights=(), form=(("a",), ()), free=(1, 3)), (2, 3))
        with self.assertRaises(TypeError):
            weight_of(("a",), (True,), (), (1, 3))
        with self.assertRaises(TypeError):
            weigh_by_rows((("a",), ()), (), (1, 3))

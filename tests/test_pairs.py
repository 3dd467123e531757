"""Points 21, 22: TOGETHER, either; what is told may be handed in again."""

import unittest

from tests.samples import all_small_forms, mixed_forms, plain_models, plain_rows, words_of
from waycircuits.forming import formed
from waycircuits.forms import is_form
from waycircuits.pairs import either, together
from waycircuits.putting import form_put
from waycircuits.rows import count_by_rows, models
from waycircuits.walking import counted

A, NOT_A, B = ("a", True), ("a", False), ("b", True)


def plain_either(one, other):
    """How many ROWS of both have a MODEL of one of them, by going through all."""
    one_models, other_models = plain_models(one), plain_models(other)
    many = 0
    for row in plain_rows(tuple(sorted({*one[0], *other[0]}))):
        first = {name: row[name] for name in one[0]} in one_models
        many += first or {name: row[name] for name in other[0]} in other_models
    return many


def some_pairs():
    names = ("a", "b", "c"), ("b", "c", "d"), ("a", "d"), ()
    forms = [form for some in names[:3] for form in mixed_forms(6, names=some, most=4)]
    forms += [((), ()), ((), ((),)), (("e",), ((),)), (("b", "e"), ())]
    return [(one, other) for one in forms for other in forms]


class Pairs(unittest.TestCase):
    def test_together(self):
        one = (("a", "c"), ((), (A,)))
        other = (("a", "b"), ((NOT_A, B), (A,)))
        self.assertEqual(together(one, other), (("a", "b", "c"), ((), (NOT_A, B), (A,))))
        self.assertEqual(together(((), ()), ((), ())), ((), ()))
        self.assertEqual(together(one=one, other=one), one)

    def test_either(self):
        self.assertEqual(either((("a",), ((A,),)), (("b",), ((B,),))), 3)
        self.assertEqual(either(one=(("a",), ((A,),)), other=(("a",), ((NOT_A,),))), 2)
        self.assertEqual(either(((), ()), ((), ((),))), 1)
        self.assertEqual(either(((), ((),)), ((), ((),))), 0)
        self.assertEqual(either((("a",), ()), (("b",), ((),))), 4)

    def test_many(self):
        for one, other in some_pairs():
            form = together(one, other)
            self.assertIs(is_form(form), True)
            self.assertEqual(form, (tuple(sorted({*one[0], *other[0]})), tuple(sorted({*one[1], *other[1]}))))
            self.assertEqual(either(one, other), plain_either(one, other))
            self.assertEqual(either(one, other), either(other, one))

    def test_both_added_less_together(self):
        for one, other in some_pairs():
            alone = 2 ** len(set(other[0]) - set(one[0])), 2 ** len(set(one[0]) - set(other[0]))
            total = count_by_rows(one) * alone[0] + count_by_rows(other) * alone[1]
            self.assertEqual(either(one, other), total - count_by_rows(together(one, other)))
            if not set(one[0]) & set(other[0]):
                self.assertEqual(count_by_rows(together(one, other)), count_by_rows(one) * count_by_rows(other))

    def test_all_small_ones(self):
        forms = list(all_small_forms())[::7]
        for one in forms:
            for other in forms:
                self.assertEqual(either(one, other), plain_either(one, other))

    def test_two_of_twelve_names(self):
        one_names, other_names = words_of(12), words_of(24)[12:]
        one = (one_names, tuple(((one_names[k], False), (one_names[k + 1], True)) for k in range(11)))
        other = (other_names, tuple(((other_names[k], False), (other_names[k + 1], True)) for k in range(11)))
        self.assertEqual(counted(together(one, other)), 13 * 13)
        self.assertEqual(either(one, other), 2 * 13 * 2 ** 12 - 13 * 13)

    def test_told_ones_handed_in_again(self):
        sentence = ("or", tuple(("and", (("name", "a"), ("name", name))) for name in ("b", "c", "d", "e")))
        form, helper = formed(sentence)
        self.assertEqual(counted(together(form, form)), counted(form))
        self.assertEqual(either(form, form), 15)
        put_again = form_put(form_put(form, (helper, True)), ("a", True))
        self.assertEqual(counted(put_again), 15)
        self.assertEqual(either(put_again, (("a",), ((A,),))), counted(put_again) * 2 + 2 ** len(put_again[0]) - 15)
        self.assertEqual(models(together((("a",), ()), (("b",), ()))), models((("a", "b"), ())))

"""Point 15: all ROWS, MODELS, COUNT, how many truths; with having and without."""

import unittest

from tests.samples import all_small_forms, mixed_forms, plain_models, words_of
from waycircuits.rows import all_rows, count_by_rows, count_by_trues, models

FORM = (("a", "b", "c"), ((("a", False), ("b", True)), (("b", False), ("c", True))))


class Rows(unittest.TestCase):
    def test_all_rows(self):
        self.assertEqual(all_rows(()), ((),))
        self.assertEqual(all_rows(("a",)), ((False,), (True,)))
        self.assertEqual(all_rows(names=("a", "b")), ((False, False), (False, True), (True, False), (True, True)))
        rows = all_rows(words_of(10))
        self.assertEqual(len(rows), 1024)
        self.assertEqual(rows, tuple(sorted(set(rows))))
        self.assertTrue(all(type(truth) is bool for row in rows for truth in row))

    def test_models(self):
        self.assertEqual(models(FORM), (
            (False, False, False), (False, False, True), (False, True, True), (True, True, True)))
        self.assertEqual(models(((), ())), ((),))
        self.assertEqual(models(((), ((),))), ())
        self.assertEqual(models((("a",), ())), ((False,), (True,)))

    def test_counts(self):
        self.assertEqual(count_by_rows(FORM), 4)
        self.assertEqual(count_by_rows(((), ())), 1)
        self.assertEqual(count_by_rows(((), ((),))), 0)
        self.assertEqual(count_by_trues(FORM), (1, 1, 1, 1))
        self.assertEqual(count_by_trues(((), ())), (1,))
        self.assertEqual(count_by_trues(((), ((),))), (0,))
        self.assertEqual(count_by_trues((("a", "b", "c"), ())), (1, 3, 3, 1))
        self.assertEqual(count_by_trues((("a", "b"), ((),))), (0, 0, 0))

    def test_many(self):
        for form in [*all_small_forms(), *mixed_forms(60)]:
            wanted = [tuple(row.values()) for row in plain_models(form)]
            self.assertEqual(models(form), tuple(sorted(wanted)))
            self.assertEqual(count_by_rows(form), len(wanted))
            self.assertEqual(count_by_trues(form), tuple(
                sum(1 for row in wanted if sum(row) == many) for many in range(len(form[0]) + 1)))

    def test_having(self):
        self.assertEqual(models(FORM, having=(("b", True),)), ((False, True, True), (True, True, True)))
        self.assertEqual(count_by_rows(FORM, having=(("c", False),)), 1)
        self.assertEqual(count_by_trues(FORM, having=(("c", True), ("a", False))), (0, 1, 1, 0))
        self.assertEqual(models(FORM, having=()), models(FORM))

    def test_having_a_strange_name_or_contraries_there_are_none(self):
        for having in ((("zz", True),), (("zz", False),), (("b", True), ("zz", True)),
                       (("b", True), ("b", False)), (("c", False), ("a", False), ("c", True))):
            self.assertEqual(models(FORM, having=having), ())
            self.assertEqual(count_by_rows(FORM, having=having), 0)
            self.assertEqual(count_by_trues(FORM, having=having), (0, 0, 0, 0))
        self.assertEqual(models(((), ()), having=(("a", True),)), ())

    def test_having_the_same_twice_and_in_any_order(self):
        self.assertEqual(models(FORM, having=(("c", True), ("a", False), ("c", True))),
                         ((False, False, True), (False, True, True)))

    def test_having_in_many(self):
        for form in mixed_forms(30):
            for having in ((("a", True),), (("f", False), ("b", True)), (("c", False), ("d", False), ("e", True))):
                wanted = [tuple(row.values()) for row in plain_models(form)
                          if all(row[name] is truth for name, truth in having)]
                self.assertEqual(models(form, having=having), tuple(wanted))
                self.assertEqual(count_by_rows(form, having=having), len(wanted))
                self.assertEqual(sum(count_by_trues(form, having=having)), len(wanted))

    def test_ten_names(self):
        names = words_of(10)
        form = (names, tuple(((name, True),) for name in names[:8]))
        self.assertEqual(count_by_rows(form), 4)
        self.assertEqual(count_by_trues(form), (0,) * 8 + (1, 2, 1))

    def test_numbers_are_numbers(self):
        self.assertTrue(all(type(number) is int for number in count_by_trues(FORM)))
        self.assertIs(type(count_by_rows(FORM)), int)

    def test_having_by_name_alone(self):
        for told in (models, count_by_rows, count_by_trues):
            told(form=FORM, having=())
            with self.assertRaises(TypeError):
                told(FORM, ())

"""Point 11: whether a ROW MEETS a CLAUSE, is a MODEL of a FORM."""

import unittest

from tests.samples import clauses_over, mixed_forms, plain_models, plain_rows, words_of
from waycircuits.forms import meets, met


class Meeting(unittest.TestCase):
    def test_void_clause_is_met_by_none(self):
        self.assertIs(meets((), (), ()), False)
        for row in ((False,), (True,)):
            self.assertIs(meets(("a",), row, ()), False)

    def test_one_literal(self):
        for truth in (False, True):
            for asked in (False, True):
                self.assertIs(meets(("a",), (truth,), (("a", asked),)), truth is asked)

    def test_name_that_is_not_there_is_had_by_none(self):
        for truth in (False, True):
            self.assertIs(meets((), (), (("a", truth),)), False)
            self.assertIs(meets(("b",), (True,), (("a", truth),)), False)
            self.assertIs(meets(("b",), (truth,), (("a", True), ("b", truth), ("c", True))), True)
            self.assertIs(meets(("b",), (not truth,), (("a", True), ("b", truth), ("c", True))), False)

    def test_all_clauses_of_three_names(self):
        names = ("a", "b", "c")
        for row in plain_rows(names):
            for clause in clauses_over(names):
                wanted = any(row[name] is truth for name, truth in clause)
                self.assertIs(meets(names, tuple(row.values()), clause), wanted)

    def test_hundreds(self):
        names = words_of(700)
        clause = tuple((name, True) for name in names)
        self.assertIs(meets(names, (False,) * 700, clause), False)
        self.assertIs(meets(names, (False,) * 699 + (True,), clause), True)

    def test_model(self):
        self.assertIs(met(((), ()), ()), True)
        self.assertIs(met(((), ((),)), ()), False)
        self.assertIs(met((("a",), ((),)), (True,)), False)
        form = (("a", "b"), ((("a", False), ("b", True)), (("a", True),)))
        self.assertEqual([met(form, row) for row in ((False, False), (False, True), (True, False), (True, True))],
                         [False, False, False, True])

    def test_models_of_many_forms(self):
        for form in mixed_forms(60):
            wanted = plain_models(form)
            for row in plain_rows(form[0]):
                self.assertIs(met(form, tuple(row.values())), row in wanted)

    def test_by_name(self):
        self.assertIs(meets(clause=(("a", True),), row=(True,), names=("a",)), True)
        self.assertIs(met(row=(True,), form=(("a",), ())), True)

"""Points 5, 13, 14: GROUPS."""

import unittest

from tests.samples import all_small_forms, mixed_forms, plain_groups, words_of
from waycircuits.forms import are_clauses, names_in
from waycircuits.grouping import groups
from waycircuits.rows import count_by_rows


def clause(*names):
    return tuple((name, True) for name in names)


class Grouping(unittest.TestCase):
    def test_of_none(self):
        self.assertEqual(groups(()), ())

    def test_void_clause_is_a_group_by_itself_ahead_of_all(self):
        self.assertEqual(groups(((),)), (((),),))
        self.assertEqual(groups(((), clause("a"))), (((),), (clause("a"),)))

    def test_one_group(self):
        clauses = (clause("a", "b"), clause("b", "c"), clause("c"))
        self.assertEqual(groups(clauses), (clauses,))

    def test_through_others(self):
        clauses = (clause("a", "d"), clause("b", "e"), clause("c", "d"), clause("c", "f"), clause("e", "g"))
        self.assertEqual(groups(clauses), (
            (clause("a", "d"), clause("c", "d"), clause("c", "f")), (clause("b", "e"), clause("e", "g"))))

    def test_joined_late(self):
        clauses = (clause("a", "x"), clause("b", "y"), clause("c", "x", "y"), clause("d"))
        self.assertEqual(groups(clauses), (clauses[:3], clauses[3:]))

    def test_both_truths_of_a_name_are_one_name(self):
        clauses = ((("a", False),), (("a", True), ("b", True)), (("b", False), ("c", True)))
        self.assertEqual(groups(clauses), (clauses,))

    def test_by_the_least_of_their_names(self):
        clauses = (clause("a", "z"), clause("b"), clause("c", "z"), (("d", False),))
        self.assertEqual([names_in(group) for group in groups(clauses)], [("a", "c", "z"), ("b",), ("d",)])

    def test_many(self):
        for form in [*all_small_forms(), *mixed_forms(80, most=6, size=2)]:
            told = groups(form[1])
            self.assertEqual(told, plain_groups(form[1]))
            self.assertTrue(all(are_clauses(group) for group in told))
            self.assertEqual(sorted(one for group in told for one in group), list(form[1]))

    def test_count_is_the_product(self):
        for form in mixed_forms(80, most=6, size=2):
            product = 2 ** (len(form[0]) - len(names_in(form[1])))
            for group in groups(form[1]):
                product *= count_by_rows((names_in(group), group))
            self.assertEqual(product, count_by_rows(form))

    def test_hundreds(self):
        names = words_of(800)
        chain = tuple(clause(one, other) for one, other in zip(names, names[1:]))
        self.assertEqual(groups(chain), (chain,))
        apart = tuple(clause(name) for name in names)
        self.assertEqual(groups(clauses=apart), tuple((one,) for one in apart))

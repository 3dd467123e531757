"""Points 2, 4, 10: of any thing whether it is a WORD, a NUMBER, NAMES, a LITERAL, a CLAUSE, CLAUSES, a FORM."""

import copy
import unittest

from tests.samples import all_small_forms, clauses_over, deep, mixed_forms, strange_things, words_of
from waycircuits.forms import are_clauses, is_form, names_in
from waycircuits.literals import contrary, is_clause, is_literal
from waycircuits.words import is_names, is_number, is_word

LOOKS = (is_word, is_number, is_names, is_literal, is_clause, are_clauses, is_form)


class Kinds(unittest.TestCase):
    def check(self, look, good, bad):
        for thing in good:
            self.assertIs(look(thing), True, thing)
        for thing in bad:
            self.assertIs(look(thing), False, thing)

    def test_word(self):
        self.check(is_word, ["a", "z", "abcdefgh", "az"], [
            "", "abcdefghi", "A", "aB", "a1", "1", "a ", " a", "a-b", "`", "{", "a_b", None, 1, True, ("a",), ["a"], ()])

    def test_number(self):
        self.check(is_number, [0, 1, -1, 10 ** 59, -(10 ** 59), 10 ** 60 - 1], [
            True, False, None, "", "1", "a", (), (1,), [1]])

    def test_names(self):
        self.check(is_names, [(), ("a",), ("a", "b"), ("a", "aa", "ab", "b"), words_of(900)], [
            [], ["a"], "a", "ab", ("b", "a"), ("a", "a"), ("a", "b", "b"), ("a", 1), (1,), ("",), ("A",), (True,),
            ("ab", "aa"), None, 1, words_of(900)[::-1], words_of(300) + ("aaa",), (("a",),), ("a", None)])

    def test_literal(self):
        self.check(is_literal, [("a", True), ("a", False), ("abcdefgh", True)], [
            ("a", 1), ("a", 0), ("a", None), ("a", "True"), ["a", True], ("a",), ("a", True, True), (True, "a"),
            ("", True), ("A", True), (1, True), (("a", True),), (), "a", None, True, (None, True), ("a", ())])

    def test_clause(self):
        self.check(is_clause, [
            (), (("a", True),), (("a", False),), (("a", True), ("b", False)), (("a", False), ("aa", True), ("b", True)),
        ], [
            [], [("a", True)], ("a", True), (("b", True), ("a", True)), (("a", False), ("a", True)),
            (("a", True), ("a", True)), (("a", 1),), (("a", 0), ("b", True)), (["a", True],), ((),), None, 1, "a",
            (("a", True), None), (("a", True), ("b",))])

    def test_clause_of_hundreds(self):
        clause = tuple((name, number % 3 == 0) for number, name in enumerate(words_of(900)))
        self.check(is_clause, [clause], [clause[::-1], clause + clause[:1], list(clause), clause + (("zz", 1),)])
        self.check(are_clauses, [(clause,), ((), clause)], [clause])
        self.check(is_form, [(words_of(900), (clause,))], [(words_of(899), (clause,))])

    def test_clauses(self):
        a, b, ab = (("a", True),), (("b", False),), (("a", True), ("b", False))
        self.check(are_clauses, [(), ((),), (a,), ((), a), (a, ab, b), ((("a", False),), a)], [
            [], [a], a, b, (b, a), (ab, a), (a, a), ((), ()), (a, ()), (a, list(b)), (a, None), (1,), "", None, True,
            (a, (("b", 1),)), (a, (("b", True), ("a", True)))])
        self.check(are_clauses, [tuple(clauses_over(("a", "b", "c", "d")))], [])

    def test_form(self):
        a, ab = (("a", True),), (("a", True), ("b", False))
        self.check(is_form, [
            ((), ()), ((), ((),)), (("a",), ()), (("a",), (a,)), (("a", "b"), (a, ab)), (("a", "b", "c"), ((), ab)),
        ], [
            (), ((),), ((), (), ()), [(), ()], ([], ()), ((), []), ((), (a,)), (("b",), (a,)), (("a",), (a, ab)),
            (("b", "a"), (a,)), (("a", "b"), (ab, a)), (("a",), a), (a, ("a",)), None, 0, True, "a", ("a", ()),
            (("a",), None), (None, ()), (("a",), ((("a", 1),),))])

    def test_void_tuple_is_names_clause_and_clauses(self):
        self.assertEqual([look(()) for look in LOOKS], [False, False, True, False, True, True, False])

    def test_many_forms_are_forms(self):
        for form in [*all_small_forms(), *mixed_forms(60)]:
            self.assertIs(is_form(form), True)
            self.assertIs(are_clauses(form[1]), True)

    def test_true_is_no_1_anywhere(self):
        self.check(is_form, [(("a",), ((("a", True),),))], [(("a",), ((("a", 1),),))])
        self.check(are_clauses, [((("a", False),), (("a", True),))], [((("a", 0),), (("a", True),))])
        self.check(is_number, [1, 0], [True, False])

    def test_any_thing_is_told_a_truth_and_not_changed(self):
        things = strange_things()
        before = copy.deepcopy(things)
        for look in LOOKS:
            for thing in things:
                self.assertIn(look(thing), (True, False))
                self.assertIs(type(look(thing)), bool)
        self.assertEqual(things, before)

    def test_thirty_within_one_another(self):
        for thing in (deep(30), deep(29, ("a", True)), deep(30, (), list), (deep(29), deep(29)), ("a", deep(29))):
            for look in LOOKS:
                self.assertIs(look(thing), False)

    def test_by_name(self):
        for look in LOOKS:
            self.assertIs(type(look(thing=())), bool)

    def test_contrary(self):
        self.assertEqual(contrary(("a", True)), ("a", False))
        self.assertEqual(contrary(literal=("abcdefgh", False)), ("abcdefgh", True))
        for truth in (False, True):
            self.assertIs(contrary(("a", truth))[1], not truth)
            self.assertEqual(contrary(contrary(("b", truth))), ("b", truth))

    def test_names_in(self):
        self.assertEqual(names_in(()), ())
        self.assertEqual(names_in(((),)), ())
        self.assertEqual(names_in(clauses=((("b", True), ("c", False)), (("b", False),))), ("b", "c"))
        self.assertEqual(names_in(((), (("a", False), ("z", True)), (("c", True),))), ("a", "c", "z"))
        names = words_of(400)
        self.assertEqual(names_in((tuple((name, True) for name in names),)), names)
        for form in mixed_forms(40):
            found = names_in(form[1])
            self.assertIs(is_names(found), True)
            self.assertEqual(set(found), {name for clause in form[1] for name, _ in clause})

"""Points 28, 29, 30: the COUNTER."""

import unittest

from tests.samples import (
    all_small_forms, form_of_threes, mixed_form, mixed_forms, plain_models, strange_things, words_of)
from waycircuits.counter import Counter
from waycircuits.errors import NoMore
from waycircuits.forming import formed
from waycircuits.forms import names_in
from waycircuits.putting import put
from waycircuits.walking import counted, trail_of

A, NOT_A, B, NOT_B, C = ("a", True), ("a", False), ("b", True), ("b", False), ("c", True)
FORM = (("a", "b", "c"), ((A, B), (NOT_B, C)))


def trail_clauses(form):
    return [row[0] for row in trail_of(form)]


class Asks(unittest.TestCase):
    def test_a_new_one(self):
        counter = Counter()
        self.assertEqual((len(counter), str(counter), counter.depth()), (0, "0 0", 0))
        self.assertIs(counter.knows(()), False)

    def test_ask(self):
        counter = Counter()
        self.assertEqual(counter.ask(FORM), (4, 4, 1))
        self.assertEqual(counter.ask(FORM), (4, 0, 1))
        self.assertEqual(counter.ask(form=(("c",), ((C,),)), most=0), (1, 0, 1))
        self.assertEqual(counter.ask((("a", "b"), ((A, B),))), (3, 2, 2))
        self.assertEqual(len(counter), 6)

    def test_void_and_free(self):
        counter = Counter()
        self.assertEqual(counter.ask((("a", "b"), ())), (4, 1, 0))
        self.assertEqual(counter.ask(((), ())), (1, 0, 1))
        self.assertEqual(counter.ask((("a",), ((),))), (0, 1, 0))
        self.assertEqual(counter.ask((("a",), ((), (A,)))), (0, 1, 0))
        self.assertEqual(len(counter), 3)

    def test_known_in_its_midst(self):
        counter = Counter()
        clauses = ((A, B), (C, ("d", True)))
        self.assertEqual(counter.ask((("a", "b", "c", "d"), clauses)), (9, 6, 3))

    def test_what_is_known_turns_no_count(self):
        counter = Counter()
        for form in [*all_small_forms(), *mixed_forms(100)]:
            self.assertEqual(counter.ask(form)[0], len(plain_models(form)))

    def test_fresh_of_a_new_one_is_the_trail(self):
        for form in mixed_forms(60):
            count, fresh, _ = Counter().ask(form)
            self.assertEqual((count, fresh), (counted(form), len(trail_of(form))))

    def test_fresh_and_known_told_to_the_row(self):
        counter, known_clauses = Counter(), set()

        def walks(clauses):
            """How many WALKS end at once, by calls within calls."""
            if clauses in known_clauses:
                return 1
            trail = trail_of((names_in(clauses), clauses))
            rule = trail[-1][2]
            ends = 0
            if rule[0] == "unit":
                ends = walks(put(clauses, rule[1]))
            elif rule[0] == "parts":
                ends = sum(walks(trail[number][0]) for number in rule[1])
            elif rule[0] == "split":
                ends = walks(put(clauses, (rule[1], False))) + walks(put(clauses, (rule[1], True)))
            known_clauses.add(clauses)
            return ends

        for form in mixed_forms(40):
            before = len(known_clauses)
            known = walks(form[1])
            self.assertEqual(counter.ask(form), (counted(form), len(known_clauses) - before, known))

    def test_asked_again_at_once(self):
        counter = Counter()
        for form in mixed_forms(30):
            count, _, _ = counter.ask(form)
            self.assertEqual(counter.ask(form), (count, 0, 1))

    def test_like_clauses_and_other_names_have_like_rows(self):
        counter = Counter()
        counter.ask(FORM)
        self.assertEqual(counter.ask((("a", "b", "c", "d", "e"), FORM[1])), (16, 0, 1))

    def test_all_fresh_ones_are_its_len(self):
        counter = Counter()
        fresh = sum(counter.ask(form)[1] for form in mixed_forms(50))
        self.assertEqual(len(counter), fresh)

    def test_hundreds_of_walks_within_one_another(self):
        names = words_of(600)
        clauses = ((((names[0], True),),) + tuple(
            ((one, False), (other, True)) for one, other in zip(names, names[1:])))
        form = (names, tuple(sorted(clauses)))
        counter = Counter()
        self.assertEqual(counter.ask(form), (1, 601, 0))
        self.assertEqual(counter.depth(), 0)

    def test_told_forms_of_many_names(self):
        form, _ = formed(("or", tuple(("and", (("name", one), ("name", "z"))) for one in "abcdef")))
        self.assertEqual(Counter().ask(form)[0], 63)

    def test_most_left_out_is_steps(self):
        form, counter = form_of_threes(100, 40, 90), Counter()
        with self.assertRaises(NoMore) as caught:
            counter.ask(form)
        self.assertEqual((caught.exception.rows, len(counter), counter.depth()), (4000, 4000, 0))

    def test_most_by_name_alone(self):
        with self.assertRaises(TypeError):
            Counter().ask(FORM, 9)
        with self.assertRaises(TypeError):
            Counter(1)


class Refused(unittest.TestCase):
    def refuse(self, counter, form, most):
        with self.assertRaises(NoMore) as caught:
            counter.ask(form, most=most)
        self.assertEqual(caught.exception.rows, most)
        self.assertEqual(counter.depth(), 0)

    def test_what_was_laid_ahead_stays(self):
        for form in mixed_forms(20):
            clauses = trail_clauses(form)
            for most in range(len(clauses)):
                counter = Counter()
                self.refuse(counter, form, most)
                self.assertEqual(len(counter), most)
                self.assertEqual([counter.knows(one) for one in clauses], [at < most for at in range(len(clauses))])
                self.assertEqual(str(counter), f"{most} {sum(len(one) for one in clauses[:most])}")
                self.assertEqual(counter.ask(form)[:2], (counted(form), len(clauses) - most))

    def test_most_at_just_the_number(self):
        for form in mixed_forms(20):
            many = len(trail_of(form))
            self.assertEqual(Counter().ask(form, most=many), Counter().ask(form))
            self.refuse(Counter(), form, many - 1)

    def test_most_is_of_this_ask_alone(self):
        counter = Counter()
        counter.ask(FORM)
        self.assertEqual(counter.ask(FORM, most=0), (4, 0, 1))
        more = (("a", "b", "c", "d"), (*FORM[1], (C, ("d", True))))
        new = [one for one in trail_clauses(more) if not counter.knows(one)]
        self.refuse(counter, more, len(new) - 1)
        self.assertEqual(len(counter), 4 + len(new) - 1)
        self.assertEqual(counter.ask(more, most=1)[:2], (counted(more), 1))

    def test_again_and_again_by_one(self):
        form = mixed_form(7, most=12)
        counter, many = Counter(), len(trail_of(form))
        for _ in range(many - 1):
            self.refuse(counter, form, 1)
        self.assertEqual(counter.ask(form, most=1)[:2], (counted(form), 1))
        whole = Counter()
        whole.ask(form)
        self.assertTrue(counter == whole)

    def test_refused_ones_asked_once_more(self):
        one, other = Counter(), Counter()
        forms, laid = mixed_forms(20), 0
        for form in forms:
            before = len(one)
            try:
                laid += one.ask(form, most=4)[1]
            except NoMore:
                laid += len(one) - before
        for form in forms:
            laid += one.ask(form)[1]
            other.ask(form)
        self.assertTrue(one == other)
        self.assertEqual(len(one), laid)


class Kept(unittest.TestCase):
    def test_knows(self):
        counter = Counter()
        counter.ask(FORM)
        for clauses in trail_clauses(FORM):
            self.assertIs(counter.knows(clauses), True)
        for clauses in (((),), ((B,),), ((A, B),)):
            self.assertIs(counter.knows(clauses=clauses), False)

    def test_str(self):
        counter = Counter()
        counter.ask(FORM)
        self.assertEqual(str(counter), "4 4")
        counter.ask((("a", "b"), ((A, B),)))
        self.assertEqual(str(counter), "6 6")

    def test_clear(self):
        counter = Counter()
        counter.ask(FORM)
        self.assertIsNone(counter.clear())
        self.assertEqual((len(counter), str(counter), counter.depth()), (0, "0 0", 0))
        self.assertIs(counter.knows(FORM[1]), False)
        self.assertTrue(counter == Counter())
        self.assertEqual(counter.ask(FORM), (4, 4, 1))

    def test_two_know_nothing_of_one_another(self):
        one, other = Counter(), Counter()
        one.ask(FORM)
        self.assertEqual(len(other), 0)
        self.assertIs(other.knows(FORM[1]), False)
        one.clear()
        other.ask(FORM)
        self.assertEqual(len(one), 0)

    def test_equal_by_the_clauses_known_alone(self):
        one, other = Counter(), Counter()
        for form in (FORM, (("a", "b"), ((A, B),))):
            one.ask(form)
        for form in (((("a", "b", "zz"), ((A, B),))), FORM, FORM):
            other.ask(form)
        self.assertIs(one == other, True)
        self.assertIs(one != other, False)
        other.ask((("a",), ((NOT_A,),)))
        self.assertIs(one == other, False)
        self.assertIs(one != other, True)
        self.assertIs(Counter() == Counter(), True)
        self.assertIs(one == one, True)

    def test_as_many_rows_of_other_clauses(self):
        one, other = Counter(), Counter()
        one.ask((("a",), ((A,),)))
        other.ask((("b",), ((B,),)))
        self.assertEqual(str(one), str(other))
        self.assertIs(one == other, False)
        self.assertIs(one != other, True)

    def test_equal_to_nothing_else(self):
        counter = Counter()
        for thing in [*strange_things(), "0 0", 0, [], ()]:
            self.assertIs(counter == thing, False)
            self.assertIs(counter != thing, True)
            self.assertIs(thing == counter, False)
            self.assertIs(thing != counter, True)

    def test_in_whatever_order_the_same_rows(self):
        forms = mixed_forms(25)
        whole = Counter()
        for form in forms:
            whole.ask(form)
        for order in (forms[::-1], forms[::2] + forms[1::2], forms + forms, sorted(forms)):
            counter = Counter()
            for form in order:
                counter.ask(form, most=5000)
            self.assertTrue(counter == whole)
            self.assertEqual((len(counter), str(counter)), (len(whole), str(whole)))

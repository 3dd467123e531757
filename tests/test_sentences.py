"""Points 18, 19, 20: SENTENCES, and their FORMS by HELPERS."""

import copy
import unittest
from itertools import product

from tests.samples import Mixer, deep, strange_things, words_of
from waycircuits.fractions import NOUGHT, ONE, plus
from waycircuits.forming import formed
from waycircuits.forms import is_form
from waycircuits.rows import all_rows, count_by_rows, models
from waycircuits.sentences import is_sentence, sentence_names, truth_of
from waycircuits.walking import counted, trail_of
from waycircuits.trailchecker import lets_trail
from waycircuits.weights import weigh_by_rows, weight_of

A, B, C = ("name", "a"), ("name", "b"), ("name", "c")
YES, NO = ("truth", True), ("truth", False)


def mixed_sentence(mixer, levels):
    """A SENTENCE of the names a, b, c, at most so deep."""
    kind = mixer.below(7) if levels else mixer.below(2)
    if kind == 0:
        return (A, B, C)[mixer.below(3)]
    if kind == 1:
        return (A, B, C, YES, NO)[mixer.below(5)]
    if kind == 2:
        return ("not", mixed_sentence(mixer, levels - 1))
    if kind == 3:
        return ("alike", mixed_sentence(mixer, levels - 1), mixed_sentence(mixer, levels - 1))
    parts = tuple(mixed_sentence(mixer, levels - 1) for _ in range(mixer.below(4)))
    return ("and", parts) if kind < 5 else ("or", parts)


def mixed_sentences(many, levels=3):
    return [mixed_sentence(Mixer(seed), levels) for seed in range(many)]


def plain_truth(sentence, truths):
    kind = sentence[0]
    if kind == "name":
        return truths[sentence[1]]
    if kind == "not":
        return not plain_truth(sentence[1], truths)
    if kind == "and":
        return all(plain_truth(part, truths) for part in sentence[1])
    if kind == "or":
        return any(plain_truth(part, truths) for part in sentence[1])
    if kind == "alike":
        return plain_truth(sentence[1], truths) is plain_truth(sentence[2], truths)
    return sentence[1]


def plain_parts(sentence):
    """The PARTS, in their order."""
    kind = sentence[0]
    inner = sentence[1] if kind in ("and", "or") else sentence[1:] if kind in ("not", "alike") else ()
    return [part for one in inner for part in plain_parts(one)] + [sentence]


def true_rows(sentence):
    """The ROWS of its names that make it True."""
    names = sentence_names(sentence)
    return [row for row in product((False, True), repeat=len(names)) if plain_truth(sentence, dict(zip(names, row)))]


class Sentences(unittest.TestCase):
    def test_is_sentence(self):
        for thing in (A, YES, NO, ("not", A), ("and", ()), ("or", ()), ("and", (A,)), ("or", (A, B, A)),
                      ("alike", A, A), ("alike", ("not", A), ("and", (B, YES))), ("name", "abcdefgh")):
            self.assertIs(is_sentence(thing), True, thing)
        for thing in mixed_sentences(50):
            self.assertIs(is_sentence(thing), True, thing)

    def test_is_no_sentence(self):
        for thing in (
                (), ("name",), ("name", ""), ("name", "A"), ("name", 1), ("name", "a", "b"), ["name", "a"], "name",
                ("not",), ("not", A, B), ("not", "a"), ("not", (A,)), ("and", A), ("and", [A]), ("and",), ("and", A, B),
                ("and", (A, "b")), ("or", (A, None)), ("or", []), ("or", (A,), (B,)), ("alike", A), ("alike", (A, B)),
                ("alike", A, B, C), ("alike", A, "b"),
                ("alike", "a", B), ("alike", (), ()), ("Alike", A, B), ("same", A), ("truth", 1), ("truth", 0), ("truth", None), ("truth",),
                ("truth", "True"), ("truth", True, True), ("xor", (A, B)), (True, True), (None, A), ("And", ()),
                (("name",), "a"), ("and", ((),)), ("not", ["name", "a"]), ("and", "ab"), ("or", "")):
            self.assertIs(is_sentence(thing), False, thing)

    def test_any_thing(self):
        things = strange_things()
        before = copy.deepcopy(things)
        for thing in things:
            self.assertIs(is_sentence(thing), False)
        self.assertEqual(things, before)

    def test_as_deep_and_as_big_as_can_be(self):
        chain = A
        for _ in range(29):
            chain = ("not", chain)
        self.assertIs(is_sentence(chain), True)
        self.assertIs(truth_of(chain, (True,)), False)
        self.assertIs(is_sentence(("not", deep(28, "a"))), False)
        wide = ("and", (A, B) * 800)
        self.assertIs(is_sentence(wide), True)
        self.assertIs(is_sentence(("and", (A, B) * 800 + (("name", 1),))), False)
        self.assertIs(truth_of(wide, (True, True)), True)
        self.assertIs(truth_of(wide, (True, False)), False)
        names = words_of(1600)
        many = ("or", tuple(("name", name) for name in names))
        self.assertEqual(sentence_names(many), names)
        self.assertIs(truth_of(many, (False,) * 1599 + (True,)), True)
        self.assertIs(truth_of(many, (False,) * 1600), False)

    def test_names(self):
        self.assertEqual(sentence_names(YES), ())
        self.assertEqual(sentence_names(("and", ())), ())
        self.assertEqual(sentence_names(("or", (C, ("not", A), ("alike", C, A)))), ("a", "c"))
        self.assertEqual(sentence_names(sentence=("alike", ("name", "b"), ("name", "ab"))), ("ab", "b"))

    def test_truths(self):
        self.assertIs(truth_of(("and", ()), ()), True)
        self.assertIs(truth_of(("or", ()), ()), False)
        self.assertIs(truth_of(YES, ()), True)
        self.assertIs(truth_of(NO, ()), False)
        for one, other in product((False, True), repeat=2):
            row = (one, other)
            self.assertIs(truth_of(("and", (A, B)), row), one and other)
            self.assertIs(truth_of(("or", (B, A)), row), one or other)
            self.assertIs(truth_of(("alike", B, A), row), one is other)
            self.assertIs(truth_of(("not", ("alike", A, B)), row), one is not other)

    def test_truths_of_many(self):
        for sentence in mixed_sentences(80):
            names = sentence_names(sentence)
            for row in all_rows(names):
                self.assertIs(truth_of(sentence=sentence, row=row), plain_truth(sentence, dict(zip(names, row))))


class Forming(unittest.TestCase):
    def test_name(self):
        self.assertEqual(formed(A), ((("a", "ha"), (
            (("a", False), ("ha", True)), (("a", True), ("ha", False)), (("ha", True),))), "ha"))

    def test_truth(self):
        self.assertEqual(formed(YES), ((("ha",), ((("ha", True),),)), "ha"))
        self.assertEqual(formed(NO), ((("ha",), ((("ha", False),), (("ha", True),))), "ha"))

    def test_and_or_of_no_parts(self):
        self.assertEqual(formed(("and", ())), ((("ha",), ((("ha", True),),)), "ha"))
        self.assertEqual(formed(("or", ())), ((("ha",), ((("ha", False),), (("ha", True),))), "ha"))

    def clauses_of_root(self, sentence):
        """The CLAUSES that have the HELPER of the SENTENCE itself, which is hc or before."""
        form, helper = formed(sentence)
        return helper, [clause for clause in form[1] if helper in dict(clause)]

    def test_not(self):
        self.assertEqual(self.clauses_of_root(("not", A)), ("hb", [
            (("ha", False), ("hb", False)), (("ha", True), ("hb", True)), (("hb", True),)]))

    def test_and(self):
        self.assertEqual(self.clauses_of_root(("and", (A, A))), ("hc", [
            (("ha", False), ("hb", False), ("hc", True)), (("ha", True), ("hc", False)),
            (("hb", True), ("hc", False)), (("hc", True),)]))

    def test_or(self):
        self.assertEqual(self.clauses_of_root(("or", (A, A))), ("hc", [
            (("ha", False), ("hc", True)), (("ha", True), ("hb", True), ("hc", False)),
            (("hb", False), ("hc", True)), (("hc", True),)]))

    def test_alike(self):
        self.assertEqual(self.clauses_of_root(("alike", A, A)), ("hc", [
            (("ha", False), ("hb", False), ("hc", True)), (("ha", False), ("hb", True), ("hc", False)),
            (("ha", True), ("hb", False), ("hc", False)), (("ha", True), ("hb", True), ("hc", True)),
            (("hc", True),)]))

    def test_a_name_in_another_part_is_there_by_its_helper(self):
        form, _ = formed(("not", A))
        self.assertEqual([clause for clause in form[1] if "a" in dict(clause)],
                         [(("a", False), ("ha", True)), (("a", True), ("ha", False))])

    def test_helpers_in_the_order_of_parts(self):
        sentence = ("alike", ("not", B), ("and", (A, YES)))
        form, helper = formed(sentence)
        self.assertEqual(form[0], ("a", "b", "ha", "hb", "hc", "hd", "he", "hf"))
        self.assertEqual(helper, "hf")
        for clause in ((("b", False), ("ha", True)), (("ha", True), ("hb", True)), (("a", True), ("hc", False)),
                       (("hd", True),), (("hc", True), ("he", False)), (("hb", True), ("he", True), ("hf", True))):
            self.assertIn(clause, form[1])

    def test_names_of_the_sentence_are_left_out(self):
        sentence = ("and", (("name", "ha"), ("name", "hc"), ("name", "hz")))
        form, helper = formed(sentence)
        self.assertEqual(form[0], ("ha", "hb", "hc", "hd", "he", "hf", "hz"))
        self.assertEqual(helper, "hf")
        self.assertIn((("ha", False), ("hb", True)), form[1])
        self.assertIn((("hd", False), ("hc", True))[::-1], form[1])
        self.assertEqual(counted(form), 1)

    def test_two_letters_behind_z(self):
        sentence = ("and", (A,) * 26 + (("name", "haa"), ("name", "hac")))
        form, helper = formed(sentence)
        self.assertEqual(helper, "hae")
        self.assertEqual([name for name in form[0] if len(name) == 3], ["haa", "hab", "hac", "had", "hae"])
        self.assertIn((("haa", False), ("hab", True)), form[1])
        self.assertIn((("hac", False), ("had", True)), form[1])

    def test_head(self):
        self.assertEqual(formed(A, head="h"), formed(A))
        self.assertEqual(formed(sentence=A, head="abcdef")[0][0], ("a", "abcdefa"))
        self.assertEqual(formed(("name", "xa"), head="x"), ((("xa", "xb"), (
            (("xa", False), ("xb", True)), (("xa", True), ("xb", False)), (("xb", True),))), "xb"))
        with self.assertRaises(TypeError):
            formed(A, "h")

    def test_two_hundred_parts(self):
        sentence = ("or", (("and", (A, B) * 49), ("and", (B, ("not", C)) * 33)))
        self.assertEqual(len(plain_parts(sentence)), 200)
        form, helper = formed(sentence)
        self.assertIs(is_form(form), True)
        self.assertEqual(len(form[0]), 203)
        self.assertEqual(helper, "hgr")
        self.assertEqual(counted(form), len(true_rows(sentence)))
        self.assertEqual(lets_trail(form, trail_of(form)), len(true_rows(sentence)))

    def test_each_row_that_makes_it_true_is_completed_once(self):
        seen = 0
        for sentence in mixed_sentences(60, levels=2):
            form, helper = formed(sentence)
            if len(form[0]) > 12:
                continue
            seen += 1
            self.assertIs(is_form(form), True)
            names = sentence_names(sentence)
            told = [tuple(dict(zip(form[0], row))[name] for name in names) for row in models(form)]
            self.assertEqual(sorted(told), true_rows(sentence))
            self.assertEqual(count_by_rows(form), len(true_rows(sentence)))
            self.assertTrue(all(dict(zip(form[0], row))[helper] for row in models(form)))
        self.assertGreater(seen, 30)

    def test_helpers_are_alike_to_their_parts(self):
        for sentence in mixed_sentences(60, levels=2):
            form, _ = formed(sentence)
            if len(form[0]) > 12:
                continue
            names = sentence_names(sentence)
            helpers = [name for name in form[0] if name not in names]
            for row in models(form):
                truths = dict(zip(form[0], row))
                wanted = [plain_truth(part, truths) for part in plain_parts(sentence)]
                self.assertEqual([truths[helper] for helper in helpers], wanted)

    def test_count_of_big_ones(self):
        for sentence in mixed_sentences(40, levels=4):
            if len(plain_parts(sentence)) <= 200:
                self.assertEqual(counted(formed(sentence)[0], most=10 ** 6), len(true_rows(sentence)))

    def test_with_weights(self):
        weights = (("a", (1, 2), (-3, 4)), ("c", (5, 1), (2, 3)))
        for sentence in (("or", (A, C)), ("alike", A, ("not", B)), ("and", (("or", (A, B)), C)), NO):
            names = sentence_names(sentence)
            total = NOUGHT
            for row in true_rows(sentence):
                total = plus(total, weight_of(names, row, weights))
            self.assertEqual(weigh_by_rows(formed(sentence)[0], weights, free=ONE), total)

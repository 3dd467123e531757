"""Point 67: the checker of any thing as a FEWEST PAPER."""

import copy
import unittest

from tests.diagram_samples import some_diagrams
from tests.samples import Mixer, strange_things
from tests.test_fewest import shown_by
from waycircuits.errors import FormError, NoPaper
from waycircuits.fewest import fewest_paper
from waycircuits.fewestchecker import lets_fewest

# MET where just one of a and b is true, and of c nothing hangs
ORDER = ("b", "c", "a")
DIAGRAM = (ORDER, (("a", False, True), ("a", True, False), ("b", 0, 1)))
NONE = ((), (), ())
ON_B = (((),), ((False, False),), ())
ON_A = (((False, False), (True, True)), ((), ()), ((True,),))
PAPER = (ON_B, NONE, ON_A)


def is_tuple_of(thing, fits):
    return isinstance(thing, tuple) and all(map(fits, thing))


def are_truths(thing):
    return is_tuple_of(thing, lambda truth: truth is False or truth is True)


def are_some(thing):
    return is_tuple_of(thing, are_truths)


class Checks(unittest.TestCase):
    def refuse(self, thing, word, at, diagram=DIAGRAM):
        before = copy.deepcopy(thing)
        with self.assertRaises(NoPaper) as caught:
            lets_fewest(diagram, thing)
        self.assertEqual((caught.exception.word, caught.exception.at), (word, at), thing)
        self.assertIsInstance(caught.exception, FormError)
        self.assertEqual(thing, before)

    def test_let_by(self):
        self.assertEqual(lets_fewest(DIAGRAM, PAPER), 3)
        self.assertEqual(lets_fewest(DIAGRAM, (ON_B, NONE, (((True, False), (False, True)), ((), ()), ((False,),)))), 3)
        self.assertEqual(lets_fewest(((), True), ()), 0)
        self.assertEqual(lets_fewest(thing=(((), (), ()),), diagram=(("a",), False)), 0)

    def test_heads_fewer_than_there_are_splits(self):
        self.assertEqual(lets_fewest(DIAGRAM, (NONE, NONE, ON_A)), 2)
        self.assertEqual(lets_fewest(DIAGRAM, (NONE, NONE, NONE)), 0)
        self.assertEqual(lets_fewest(DIAGRAM, (ON_B, NONE, (((True, True),), ((),), ()))), 2)

    def test_shape(self):
        seen = set()
        for thing in strange_things():
            self.refuse(thing, "shape" if thing != () else "many", -1 if thing != () else 0)
            told = [
                ((thing, NONE, NONE), is_tuple_of(thing, are_some) and len(thing) == 3),
                ((NONE, (thing, (), ()), NONE), are_some(thing)),
                ((NONE, NONE, ((), (thing,), ())), are_truths(thing))]
            for more, right in told:
                seen.add(right)
                if not right:
                    self.refuse(more, "shape", -1)
            self.refuse((NONE, NONE, ((), (), ((), thing))), *(("parts", 2) if are_truths(thing) else ("shape", -1)))
        self.assertEqual(seen, {True, False})

    def test_shape_of_what_is_in_it(self):
        for truth in (0, 1, None, "True", (), (True,), [True]):
            self.refuse((ON_B, NONE, (((False, truth), (True, True)), ((), ()), ((True,),))), "shape", -1)
            self.refuse(((((),), ((truth, False),), ()), NONE, ON_A), "shape", -1)
            self.refuse((ON_B, NONE, (ON_A[0], ON_A[1], ((truth,),))), "shape", -1)
        self.refuse(list(PAPER), "shape", -1)
        self.refuse((list(ON_B), NONE, ON_A), "shape", -1)
        self.refuse((([()], ((False, False),), ()), NONE, ON_A), "shape", -1)
        self.refuse((ON_B, NONE, ([False, False], ((), ()), ((True,),))), "shape", -1)
        self.refuse((ON_B, NONE, ON_A[:2]), "shape", -1)
        self.refuse((ON_B, NONE, (*ON_A, ())), "shape", -1)

    def test_shape_goes_ahead(self):
        self.refuse((((True,),), None), "shape", -1)
        self.refuse((ON_B, NONE, ON_A, None), "shape", -1)

    def test_many(self):
        for thing in ((), (NONE,), (ON_B, NONE), (*PAPER, NONE), ((((True,),), (), ()),)):
            self.refuse(thing, "many", len(thing))
        self.refuse((NONE,), "many", 1, ((), False))
        self.refuse((((True,),), ((),), ()), "shape", -1)

    def test_head(self):
        self.refuse(((((True,),), ((False, False),), ()), NONE, ON_A), "head", (0, 0))
        self.refuse((ON_B, NONE, (((False, False), (True,)), (), ())), "head", (2, 1))
        self.refuse((ON_B, NONE, (((False, False, True), (True,)), (), ())), "head", (2, 0))
        self.refuse((ON_B, (((False,), ()), (), ()), ON_A), "head", (1, 1))

    def test_turns(self):
        self.refuse(((((),), (), ()), NONE, ON_A), "turns", 0)
        self.refuse(((((),), ((False, False), (False, False)), ()), NONE, ON_A), "turns", 0)
        self.refuse((ON_B, ((), ((True,),), ()), ON_A), "turns", 1)
        self.refuse((ON_B, NONE, (ON_A[0], ((),), ON_A[2])), "turns", 2)

    def test_turn(self):
        self.refuse(((((),), ((False,),), ()), NONE, ON_A), "turn", (0, 0))
        self.refuse(((((),), ((False, False, False),), ()), NONE, ON_A), "turn", (0, 0))
        self.refuse((ON_B, NONE, (ON_A[0], ((), (True,)), ())), "turn", (2, 1))
        # c never turns it
        self.refuse((ON_B, (((True,),), ((False,),), ()), ON_A), "turn", (1, 0))
        nothing = (ORDER, True)
        self.refuse(PAPER, "turn", (0, 0), nothing)

    def test_parts(self):
        self.refuse((ON_B, NONE, (ON_A[0], ON_A[1], ())), "parts", 2)
        self.refuse((ON_B, NONE, (ON_A[0], ON_A[1], ((True,), (True,)))), "parts", 2)
        self.refuse(((((),), ((False, False),), ((True, True, True),)), NONE, ON_A), "parts", 0)
        self.refuse((((), (), ((),)), NONE, ON_A), "parts", 0)

    def test_part(self):
        self.refuse((ON_B, NONE, (ON_A[0], ON_A[1], ((),))), "part", (2, 0))
        self.refuse((ON_B, NONE, (ON_A[0], ON_A[1], ((True, True),))), "part", (2, 0))
        # these two heads come to one split
        self.refuse((ON_B, NONE, (((False, False), (False, True)), ((), ()), ((True,),))), "part", (2, 0))
        self.refuse((ON_B, NONE, (((False, False), (False, False)), ((), ()), ((True,),))), "part", (2, 0))
        self.refuse(((((), ()), ((False, False),) * 2, ((True, True, True),)), NONE, ON_A), "part", (0, 0))
        three = (((False, False), (True, True), (True, False)), ((), (), ()), ((True,), (True,), (True,)))
        self.refuse((ON_B, NONE, three), "part", (2, 2))
        self.refuse((ON_B, NONE, (*three[:2], ((True,), (), (True,)))), "part", (2, 1))

    def test_triple_by_triple(self):
        wrong = (((True,),), (), ((True,),))
        self.refuse((wrong, wrong, wrong), "head", (0, 0))
        self.refuse((ON_B, (((),), (), ()), wrong), "head", (1, 0))
        # turns of the first go ahead of heads of the next
        self.refuse(((((),), (), ((),)), wrong, ON_A), "turns", 0)
        self.refuse(((((),), ((False,),), ((),)), wrong, ON_A), "turn", (0, 0))
        self.refuse(((((),), ((False, False),), ((),)), (((True, True),), (), ()), ON_A), "parts", 0)

    def test_many_heads(self):
        self.refuse(((((),) * 3000, (), ()), NONE, NONE), "turns", 0)
        self.refuse(((((),) * 900, ((False, False),) * 900, ()), NONE, NONE), "parts", 0)

    def test_those_that_are_let_by_show_no_more_than_splits(self):
        told = set()
        for seed, diagram in enumerate(some_diagrams(40)):
            many = 0 if isinstance(diagram[1], bool) else len(diagram[1])
            mixer = Mixer(seed)
            for _ in range(60):
                thing = self.turned(mixer, fewest_paper(diagram))
                wanted = shown_by(diagram, thing)
                try:
                    shown = lets_fewest(diagram, thing)
                except NoPaper:
                    shown = None
                self.assertEqual(shown, wanted)
                told.add(shown is None)
                self.assertLessEqual(shown or 0, many)
        self.assertEqual(told, {True, False})

    def turned(self, mixer, paper):
        """The paper with one truth turned, or one thing out, or one twice."""
        at = mixer.below(len(paper))
        triple = [list(some) for some in paper[at]]
        some = triple[mixer.below(3)]
        if some:
            place, way = mixer.below(len(some)), mixer.below(4)
            if way == 0:
                some.pop(place)
            elif way == 1:
                some.append(some[place])
            elif some[place]:
                inner = list(some[place])
                inner[mixer.below(len(inner))] ^= True
                some[place] = tuple(inner)
        return (*paper[:at], tuple(tuple(some) for some in triple), *paper[at + 1:])

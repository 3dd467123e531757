"""Point 60: a MODEL against a LITERAL, the BACKBONE, two names that are tied, all TIES."""

import copy
import unittest
from itertools import combinations

from tests.circuit_samples import chain_circuit, plain_ways, some_circuits
from tests.samples import words_of
from waycircuits.compiling import compiled
from waycircuits.errors import FormError, LackError, NoModel, NoName
from waycircuits.follows import against, backbone, tied, ties

TRUE, FALSE = ("true",), ("false",)
A, NOT_A, B, C = ("literal", "a", True), ("literal", "a", False), ("literal", "b", True), ("literal", "c", True)
# a and b alike, c unlike both, d either
CIRCUIT = compiled((("a", "b", "c", "d"), (
    (("a", False), ("b", True)), (("a", False), ("c", False)), (("a", True), ("b", False)), (("a", True), ("c", True)))))
NONE = (("a", "c"), (FALSE,))


class Case(unittest.TestCase):
    def no_name(self, name, function, *arguments):
        with self.assertRaises(NoName) as caught:
            function(*arguments)
        self.assertEqual(caught.exception.name, name)
        self.assertIsInstance(caught.exception, LackError)

    def no_model(self, circuit, function, *arguments):
        with self.assertRaises(NoModel) as caught:
            function(circuit, *arguments)
        self.assertIs(caught.exception.form, circuit)
        self.assertIsInstance(caught.exception, FormError)


class Against(Case):
    def check(self, circuit, literal):
        before = copy.deepcopy(circuit)
        told = against(circuit, literal)
        self.assertEqual(circuit, before)
        place = circuit[0].index(literal[0])
        wanted = [way for way in plain_ways(circuit) if way[place] is not literal[1]]
        if wanted:
            self.assertIn(told, wanted)
            self.assertEqual([type(truth) for truth in told], [bool] * len(circuit[0]))
        else:
            self.assertIsNone(told)

    def test_small_ones(self):
        circuit = (("a", "b"), (A, B, ("and", (0, 1))))
        self.assertIsNone(against(circuit, ("a", True)))
        self.assertEqual(against(circuit, ("a", False)), (True, True))
        self.assertEqual(against((("a",), (TRUE,)), ("a", True)), (False,))
        self.assertEqual(against((("a",), (TRUE,)), ("a", False)), (True,))

    def test_of_many(self):
        for circuit in some_circuits():
            for name in circuit[0]:
                for truth in (False, True):
                    self.check(circuit, (name, truth))

    def test_without_models(self):
        for truth in (False, True):
            self.assertIsNone(against(NONE, ("a", truth)))
            self.assertIsNone(against(NONE, ("c", truth)))

    def test_names_that_stand_in_no_node(self):
        self.check((("a", "b", "z"), (A,)), ("z", True))
        self.check((("a", "b", "z"), (A,)), ("z", False))

    def test_no_name(self):
        for circuit in (CIRCUIT, NONE, ((), (TRUE,))):
            self.no_name("bb", against, circuit, ("bb", True))
            self.no_name("z", against, circuit, ("z", False))

    def test_by_name(self):
        self.assertIsNone(against(literal=("a", True), circuit=(("a",), (A,))))


class Backbone(Case):
    def test_small_ones(self):
        self.assertEqual(backbone((("a", "b"), (NOT_A, B, ("and", (0, 1))))), (("a", False), ("b", True)))
        self.assertEqual(backbone(circuit=(("a", "b", "c"), (B,))), (("b", True),))
        self.assertEqual(backbone(CIRCUIT), ())
        self.assertEqual(backbone(((), (TRUE,))), ())
        self.assertEqual(backbone(chain_circuit()), ())

    def test_of_many(self):
        for circuit in some_circuits():
            ways = plain_ways(circuit)
            if not ways:
                self.no_model(circuit, backbone)
                continue
            literals = [(name, truth) for name in circuit[0] for truth in (False, True)]
            wanted = tuple(literal for literal in literals
                           if all(way[circuit[0].index(literal[0])] is literal[1] for way in ways))
            self.assertEqual(backbone(circuit), wanted)
            self.assertEqual([against(circuit, literal) is None for literal in literals],
                             [literal in wanted for literal in literals])

    def test_no_model(self):
        for circuit in (NONE, ((), (FALSE,)), chain_circuit(FALSE)):
            self.no_model(circuit, backbone)


class Tied(Case):
    def check(self, circuit, ways, one, other):
        told = tied(circuit, one, other)
        names = circuit[0]
        like = [way for way in ways if way[names.index(one)] is way[names.index(other)]]
        unlike = [way for way in ways if way not in like]
        if not unlike:
            self.assertEqual(told, ("alike",))
        elif not like:
            self.assertEqual(told, ("unlike",))
        else:
            word, first, second = told
            self.assertEqual(word, "free")
            self.assertIn(first, like)
            self.assertIn(second, unlike)
        return told[0]

    def test_small_ones(self):
        self.assertEqual(tied(CIRCUIT, "a", "b"), ("alike",))
        self.assertEqual(tied(CIRCUIT, "c", "a"), ("unlike",))
        self.assertEqual(tied(CIRCUIT, "b", "d")[0], "free")
        self.assertEqual(tied((("a", "b"), (A, B, ("and", (0, 1)))), "b", "a"), ("alike",))
        self.assertEqual(tied((("a", "b"), (NOT_A, B, ("and", (0, 1)))), "b", "a"), ("unlike",))

    def test_of_many_in_either_order(self):
        words = set()
        for circuit in some_circuits():
            ways = plain_ways(circuit)
            for one, other in combinations(circuit[0], 2):
                if ways:
                    words.add(self.check(circuit, ways, one, other))
                    self.assertEqual(self.check(circuit, ways, other, one), tied(circuit, one, other)[0])
                else:
                    self.no_model(circuit, tied, one, other)
                    self.no_model(circuit, tied, other, one)
        self.assertEqual(words, {"alike", "unlike", "free"})

    def test_no_name_of_the_one_ahead(self):
        for circuit in (CIRCUIT, NONE):
            self.no_name("z", tied, circuit, "z", "a")
            self.no_name("z", tied, circuit, "a", "z")
            self.no_name("z", tied, circuit, "z", "aa")
            self.no_name("aa", tied, circuit, "aa", "z")

    def test_no_name_ahead_of_no_model(self):
        self.no_name("b", tied, NONE, "a", "b")
        self.no_name("b", tied, NONE, "b", "a")
        self.no_model(NONE, tied, "a", "c")
        self.no_model(NONE, tied, "c", "a")

    def test_by_name(self):
        self.assertEqual(tied(other="b", circuit=CIRCUIT, one="a"), ("alike",))
        with self.assertRaises(NoName) as caught:
            tied(other="y", one="z", circuit=CIRCUIT)
        self.assertEqual(caught.exception.name, "z")


class Ties(Case):
    def test_small_ones(self):
        self.assertEqual(ties(CIRCUIT), (("a", "b", True), ("a", "c", False), ("b", "c", False)))
        self.assertEqual(ties((("a", "b"), (A, B, ("and", (0, 1))))), (("a", "b", True),))
        self.assertEqual(ties(circuit=(("a", "b"), (A,))), ())
        self.assertEqual(ties(((), (TRUE,))), ())
        self.assertEqual(ties((("a",), (A,))), ())

    def test_of_many(self):
        for circuit in some_circuits():
            names, ways = circuit[0], plain_ways(circuit)
            if not ways:
                self.no_model(circuit, ties)
                continue
            wanted = []
            for one, other in combinations(range(len(names)), 2):
                found = {way[one] is way[other] for way in ways}
                if len(found) == 1:
                    wanted.append((names[one], names[other], found.pop()))
            told = ties(circuit)
            self.assertEqual(told, tuple(wanted))
            self.assertEqual(told, tuple(sorted(told)))
            self.assertTrue(all(type(truth) is bool for _, _, truth in told))

    def test_no_model(self):
        for circuit in (NONE, ((), (FALSE,)), chain_circuit(FALSE)):
            self.no_model(circuit, ties)

    def test_more_names(self):
        names = words_of(30)
        form = (names, tuple(sorted(
            clause for one, other in zip(names, names[1:])
            for clause in (((one, False), (other, True)), ((one, True), (other, False))))))
        told = ties(compiled(form))
        self.assertEqual(told, tuple((one, other, True) for one, other in combinations(names, 2)))

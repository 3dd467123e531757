"""Points 55, 56: MODELS by their numbers, and draws by digits."""

import unittest
from itertools import product

from tests.circuit_samples import built_circuits, chain_circuit, plain_rows_of, plain_ways, some_circuits
from tests.samples import words_of
from waycircuits.compiling import compiled
from waycircuits.counting import circuit_count
from waycircuits.errors import FormError, LackError, NoModel, NoNumber
from waycircuits.numbers import drawn, model_at, number_of

TRUE, FALSE = ("true",), ("false",)
A, B = ("literal", "a", True), ("literal", "b", True)
# the ways: not a, either b; a and b
CIRCUIT = (("a", "b"), (TRUE, B, ("split", "a", 0, 1)))
WAYS = ((False, False), (False, True), (True, True))


class Numbers(unittest.TestCase):
    def test_small_ones(self):
        self.assertEqual(tuple(model_at(CIRCUIT, number) for number in range(3)), WAYS)
        self.assertEqual([number_of(CIRCUIT, row) for row in WAYS], [0, 1, 2])
        self.assertIsNone(number_of(CIRCUIT, (True, False)))
        self.assertEqual((model_at(((), (TRUE,)), 0), number_of(((), (TRUE,)), ())), ((), 0))
        self.assertIsNone(number_of(((), (FALSE,)), ()))

    def test_of_many(self):
        for circuit in some_circuits():
            ways = plain_ways(circuit)
            for number, way in enumerate(ways):
                told = model_at(circuit, number)
                self.assertEqual(told, way)
                self.assertEqual([type(truth) for truth in told], [bool] * len(circuit[0]))
                self.assertEqual(number_of(circuit, way), number)
                self.assertIs(type(number_of(circuit, way)), int)
            for row in plain_rows_of(circuit[0]):
                if tuple(row.values()) not in ways:
                    self.assertIsNone(number_of(circuit, tuple(row.values())))

    def test_no_number(self):
        for circuit in [CIRCUIT, ((), (FALSE,)), ((), (TRUE,)), *built_circuits(10)]:
            count = circuit_count(circuit)
            for number in (-1, -2, -count - 1, count, count + 1, 10 ** 59):
                with self.assertRaises(NoNumber) as caught:
                    model_at(circuit, number)
                self.assertEqual(caught.exception.number, number)
                self.assertIsInstance(caught.exception, LackError)

    def test_nodes_that_arent_reached(self):
        circuit = (("a", "b"), (A, ("and", (0, 0)), ("split", "a", 0, 0), ("or", (0, 0), (("out", 0),)), B))
        self.assertEqual([model_at(circuit, number) for number in range(2)], [(False, True), (True, True)])
        self.assertEqual(number_of(circuit, (True, True)), 1)

    def test_hundreds_of_names(self):
        names = words_of(150)
        circuit = (names, (TRUE,))
        for number in (0, 1, 2 ** 149, 2 ** 150 - 1, 123456789 ** 5):
            row = model_at(circuit, number)
            self.assertEqual(sum(truth << 149 - at for at, truth in enumerate(row)), number)
            self.assertEqual(number_of(circuit, row), number)
        chain = compiled((names, tuple(((one, False), (other, True)) for one, other in zip(names, names[1:]))))
        self.assertEqual(model_at(chain, 3), (False,) * 147 + (True,) * 3)
        self.assertEqual(number_of(chain, (True,) * 150), 150)

    def test_by_name(self):
        self.assertEqual(model_at(number=1, circuit=CIRCUIT), WAYS[1])
        self.assertEqual(number_of(row=WAYS[1], circuit=CIRCUIT), 1)


class Draws(unittest.TestCase):
    def test_small_ones(self):
        told = [drawn(CIRCUIT, (digit,)) for digit in range(10)]
        self.assertEqual(told, [WAYS[0]] * 3 + [WAYS[1]] * 3 + [WAYS[2]] * 3 + [None])

    def test_the_first_digit_is_the_greatest_ones(self):
        # 100 // 3 is 33
        for digits, way in (((3, 2), 0), ((3, 3), 1), ((6, 5), 1), ((6, 6), 2), ((9, 8), 2), ((0, 9), 0)):
            self.assertEqual(drawn(CIRCUIT, digits), WAYS[way])
        self.assertIsNone(drawn(CIRCUIT, (9, 9)))

    def test_no_digits(self):
        self.assertEqual(drawn(((), (TRUE,)), ()), ())
        self.assertEqual(drawn((("a",), (A,)), ()), (True,))
        self.assertIsNone(drawn(CIRCUIT, ()))

    def test_a_share_of_nought(self):
        circuit = (("a", "b", "c", "d"), (TRUE,))
        for digit in range(10):
            self.assertIsNone(drawn(circuit, (digit,)))
        self.assertIsNone(drawn(circuit, (1, 1, 1), base=2))
        self.assertEqual(drawn(circuit, (1, 1, 1, 1), base=2), (True,) * 4)

    def test_bases(self):
        self.assertEqual(drawn(CIRCUIT, (1, 0), base=2), WAYS[2])
        self.assertIsNone(drawn(CIRCUIT, (1, 1), base=2))
        self.assertEqual(drawn(CIRCUIT, (2,), base=3), WAYS[2])
        self.assertEqual(drawn(CIRCUIT, (10 ** 58,), base=10 ** 59), WAYS[0])
        self.assertEqual(drawn(CIRCUIT, (10 ** 59 - 2,), base=10 ** 59), WAYS[2])
        self.assertIsNone(drawn(CIRCUIT, (10 ** 59 - 1,), base=10 ** 59))

    def test_each_model_just_as_often(self):
        for circuit in built_circuits(25, names=("a", "b", "c")):
            ways = plain_ways(circuit)
            for base, length in ((2, 4), (3, 2), (10, 1), (7, 1), (2, 0)):
                if ways:
                    told = [drawn(circuit, digits, base=base) for digits in product(range(base), repeat=length)]
                    share = base ** length // len(ways)
                    self.assertEqual(told, [way for way in ways for _ in range(share)] + [None] * (len(told) - share * len(ways)))

    def test_no_digit(self):
        for digits, base, digit in (
                ((10,), 10, 10), ((-1,), 10, -1), ((0, 1, 2, 3), 2, 2), ((1, -5, 12), 10, -5), ((1, 12, -5), 10, 12),
                ((2, 3), 2, 2), ((10 ** 59,), 10, 10 ** 59)):
            for circuit in (CIRCUIT, ((), (FALSE,)), (("a",), (FALSE,))):
                with self.assertRaises(NoNumber) as caught:
                    drawn(circuit, digits, base=base)
                self.assertEqual(caught.exception.number, digit)

    def test_no_model(self):
        for circuit in (((), (FALSE,)), (("a",), (FALSE,)), chain_circuit(FALSE)):
            for digits in ((), (0,), (9, 9, 9)):
                with self.assertRaises(NoModel) as caught:
                    drawn(circuit, digits)
                self.assertIs(caught.exception.form, circuit)
                self.assertIsInstance(caught.exception, FormError)

    def test_base_by_name_alone(self):
        self.assertEqual(drawn(digits=(2,), circuit=CIRCUIT, base=3), WAYS[2])
        with self.assertRaises(TypeError):
            drawn(CIRCUIT, (2,), 3)

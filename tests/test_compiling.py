"""Point 47: the CIRCUIT COMPILED of a FORM."""

import unittest

from tests.circuit_samples import plain_ways
from tests.samples import (
    all_small_forms, form_of_threes, mixed_form, mixed_forms, plain_models, plain_trail, words_of)
from waycircuits.casechecker import lets_parted
from waycircuits.circuits import is_circuit, is_decomposed, met_by, names_under
from waycircuits.compiling import compiled
from waycircuits.forming import formed
from waycircuits.rows import models

A, NOT_A, B, C, D = ("a", True), ("a", False), ("b", True), ("c", True), ("d", True)


def plain_nodes(trail):
    """The NODES of a TRAIL, row by row."""
    nodes, last = [], {}
    for number, (_, _, rule) in enumerate(trail):
        if rule[0] == "unit":
            nodes.append(("literal", *rule[1]))
            nodes.append(("and", (len(nodes) - 1, last[rule[2]])))
        else:
            nodes.append({
                "void": lambda: ("false",), "free": lambda: ("true",),
                "parts": lambda: ("and", tuple(last[one] for one in rule[1])),
                "split": lambda: ("split", rule[1], last[rule[2]], last[rule[3]])}[rule[0]]())
        last[number] = len(nodes) - 1
    return tuple(nodes)


class Compiles(unittest.TestCase):
    def test_free_and_void(self):
        self.assertEqual(compiled((("a", "b"), ())), (("a", "b"), (("true",),)))
        self.assertEqual(compiled((("a",), ((), (A,)))), (("a",), (("false",),)))
        self.assertEqual(compiled(((), ())), ((), (("true",),)))

    def test_unit(self):
        self.assertEqual(compiled((("a", "b"), ((NOT_A,),))), (("a", "b"), (
            ("true",), ("literal", "a", False), ("and", (1, 0)))))

    def test_split_and_parts(self):
        self.assertEqual(compiled((("a", "b", "c", "d"), ((A, B), (C, D))))[1], (
            ("true",), ("literal", "b", True), ("and", (1, 0)), ("split", "a", 2, 0),
            ("literal", "d", True), ("and", (4, 0)), ("split", "c", 5, 0), ("and", (3, 6))))

    def test_just_that_one(self):
        for form in [*all_small_forms(), *mixed_forms(120), *mixed_forms(30, most=24, size=4)]:
            self.assertEqual(compiled(form), (form[0], plain_nodes(plain_trail(form))))

    def test_well_built_and_its_models_are_the_forms(self):
        for form in [*all_small_forms(), *mixed_forms(80)]:
            circuit = compiled(form)
            self.assertIs(is_circuit(circuit), True)
            self.assertIs(is_decomposed(circuit), True)
            self.assertIs(lets_parted(circuit), True)
            self.assertEqual(plain_ways(circuit), [tuple(row.values()) for row in plain_models(form)])
            for row in models(form):
                self.assertIs(met_by(circuit, row), True)

    def test_a_name_that_goes_out_stands_in_no_node_there(self):
        circuit = compiled((("a", "b"), ((A, B),)))
        self.assertEqual(names_under(circuit, circuit[1][-1][3]), ())
        self.assertIs(met_by(circuit, (True, False)), True)

    def test_however_many_rows(self):
        form = form_of_threes(100, 40, 90)
        circuit = compiled(form)
        self.assertGreater(len(circuit[1]), 8000)
        self.assertIs(is_circuit(circuit), True)

    def test_hundreds_of_names(self):
        names = words_of(500)
        circuit = compiled((names, tuple(((one, False), (other, True)) for one, other in zip(names, names[1:]))))
        self.assertIs(is_circuit(circuit), True)
        self.assertIs(is_decomposed(circuit), True)
        self.assertIs(met_by(circuit, (False,) * 500), True)
        self.assertIs(met_by(circuit, (True,) * 499 + (False,)), False)

    def test_told_forms(self):
        form, _ = formed(("alike", ("name", "a"), ("and", (("name", "b"), ("name", "c")))))
        self.assertEqual(len(plain_ways(compiled(form))), 4)

    def test_by_name(self):
        self.assertEqual(compiled(form=mixed_form(5)), compiled(mixed_form(5)))

"""The interface: names, where each is defined, arguments by place, by name, by name alone."""

import importlib
import inspect
import unittest

FUNCTIONS = {
    "words": ["is_word(thing)", "is_number(thing)", "is_names(thing)"],
    "literals": ["is_literal(thing)", "is_clause(thing)", "contrary(literal)"],
    "forms": ["are_clauses(thing)", "is_form(thing)", "names_in(clauses)", "meets(names, row, clause)", "met(form, row)"],
    "putting": ["put(clauses, literal)", "put_all(clauses, literals)", "form_put(form, literal)"],
    "grouping": ["groups(clauses)"],
    "rows": ["all_rows(names)", "models(form, *, having=())", "count_by_rows(form, *, having=())",
             "count_by_trues(form, *, having=())"],
    "fractions": ["is_fraction(thing)", "plus(one, other)", "times(one, other)"],
    "weights": ["is_weights(thing)", "weight_of(names, row, weights, *, free=(1, 1))",
                "weigh_by_rows(form, weights, *, free=(1, 1))"],
    "sentences": ["is_sentence(thing)", "sentence_names(sentence)", "truth_of(sentence, row)"],
    "forming": ["formed(sentence, *, head='h')"],
    "pairs": ["together(one, other)", "either(one, other)"],
    "trailchecker": ["lets_trail(form, thing)"],
    "walking": ["trail_of(form, *, most=4000)", "counted(form, *, most=4000)"],
    "showing": ["projected(form, shown, *, most=4000)"],
    "showchecker": ["lets_projected(form, shown, thing)"],
    "circuits": ["is_circuit(thing)", "names_under(circuit, node)", "met_by(circuit, row)", "node_met(circuit, node, row)",
                 "is_decomposed(circuit)"],
    "refuting": ["refuted(circuit, node, literals)"],
    "casechecker": ["lets_apart(circuit, one, other, thing)", "lets_parted(circuit)"],
    "cases": ["apart(circuit, one, other)"],
    "compiling": ["compiled(form)"],
    "counting": ["circuit_count(circuit)", "circuit_trues(circuit)", "circuit_literals(circuit)",
                 "weighed(circuit, weights, *, free=(1, 1))"],
    "extremes": ["heaviest(circuit, weights, *, free=(1, 1))", "lightest(circuit, weights, *, free=(1, 1))"],
    "boundchecker": ["lets_heaviest(circuit, weights, thing, *, free=(1, 1))",
                     "lets_lightest(circuit, weights, thing, *, free=(1, 1))"],
    "equalchecker": ["lets_equal(form, circuit, thing)"],
    "equal": ["equal_or_row(form, circuit)"],
    "numbers": ["model_at(circuit, number)", "number_of(circuit, row)", "drawn(circuit, digits, *, base=10)"],
    "conditioning": ["conditioned(circuit, literals)"],
    "forgetting": ["forgotten(circuit, names)"],
    "follows": ["against(circuit, literal)", "backbone(circuit)", "tied(circuit, one, other)", "ties(circuit)"],
    "diagrams": ["is_diagram(thing)", "diagram_met(diagram, row)", "diagram_count(diagram)"],
    "drawing": ["diagram_of(form, *, order=())", "diagram_from(circuit, *, order=())"],
    "joining": ["both(one, other)", "either_one(one, other)", "other_way(diagram)", "put_in(diagram, literals)",
                "forgotten_in(diagram, names)"],
    "same": ["same_or_row(one, other)"],
    "fewest": ["fewest_paper(diagram)"],
    "fewestchecker": ["lets_fewest(diagram, thing)"],
    "pages": ["is_moment(thing)", "is_page(thing)"],
    "books": ["is_book(thing)", "in_order(pages)", "joined(one, other)", "up_to(book, until=None)"],
    "views": ["idle(book, until=None)", "form_at(book, until=None)", "weights_at(book, until=None)",
              "shown_at(book, until=None)"],
    "asks": ["count_at(book, until=None, *, most=4000)", "shown_count_at(book, until=None, *, most=4000)",
             "weight_at(book, until=None, *, free=(1, 1))"],
    "texts": ["page_line(page)", "book_lines(book)", "form_lines(form)"],
    "readings": ["read_page(text)", "read_book(lines)", "read_form(lines)"],
}
CLASSES = {
    "counter": {"Counter": [
        "ask(self, form, *, most=4000)", "knows(self, clauses)", "depth(self)", "clear(self)", "__len__(self)",
        "__str__(self)", "__eq__(self, other)", "__ne__(self, other)", "__init__(self)"]},
    "session": {"Session": [
        "tell(self, thing)", "strike(self, thing)", "take_in(self, other)", "tell_all(self, things, *, keep=False)",
        "back(self)", "book(self)", "elder(self, k)", "asked(self, *, most=4000)", "__len__(self)", "__str__(self)",
        "__eq__(self, other)", "__ne__(self, other)", "__init__(self)"]},
    "desk": {"Desk": ["say(self, row)", "__init__(self)"]},
}


def module(name):
    return importlib.import_module("waycircuits." + name)


class Interface(unittest.TestCase):
    def check(self, place, owner, told):
        name = told.split("(")[0]
        self.assertIn(name, vars(owner), told)
        function = vars(owner)[name]
        self.assertTrue(inspect.isfunction(function), told)
        self.assertEqual(function.__module__, place.__name__, told)
        self.assertEqual(name + str(inspect.signature(function)), told)

    def test_functions_are_defined_where_they_are_listed(self):
        for name, listed in FUNCTIONS.items():
            for told in listed:
                self.check(module(name), module(name), told)

    def test_methods_are_defined_in_the_class_itself(self):
        for name, classes in CLASSES.items():
            for class_name, listed in classes.items():
                owner = getattr(module(name), class_name)
                self.assertEqual(owner.__module__, module(name).__name__)
                for told in listed:
                    self.check(module(name), owner, told)

    def test_numbers_and_fractions(self):
        self.assertEqual(module("walking").STEPS, 4000)
        self.assertEqual((module("fractions").ONE, module("fractions").NOUGHT), ((1, 1), (0, 1)))

"""Points 1 to 3, 9, 22 over the whole program: arguments by place and by name, what is handed in, what is told, refused."""

import copy
import importlib
import inspect
import unittest

from tests.book_samples import any_pages, some_books
from tests.circuit_samples import any_circuit, built_circuit, chain_circuit
from tests.samples import mixed_form, mixed_forms, strange_things
from tests.test_interface import CLASSES, FUNCTIONS
from waycircuits import errors
from waycircuits.asks import count_at, shown_count_at, weight_at
from waycircuits.books import in_order
from waycircuits.cases import apart
from waycircuits.compiling import compiled
from waycircuits.counter import Counter
from waycircuits.counting import circuit_count, weighed
from waycircuits.desk import Desk
from waycircuits.diagrams import diagram_count
from waycircuits.drawing import diagram_from, diagram_of
from waycircuits.equal import equal_or_row
from waycircuits.equalchecker import lets_equal
from waycircuits.errors import FormError, LackError, NoMore, NoPaper
from waycircuits.extremes import heaviest, lightest
from waycircuits.fewest import fewest_paper
from waycircuits.fewestchecker import lets_fewest
from waycircuits.forgetting import forgotten
from waycircuits.numbers import model_at, number_of
from waycircuits.readings import read_book, read_form
from waycircuits.rows import count_by_rows, models
from waycircuits.session import Session
from waycircuits.showing import projected
from waycircuits.texts import book_lines, form_lines
from waycircuits.trailchecker import lets_trail
from waycircuits.views import form_at, shown_at, weights_at
from waycircuits.walking import counted, trail_of
from waycircuits.weights import weigh_by_rows

A, NOT_A, B, C = ("a", True), ("a", False), ("b", True), ("c", True)
CLAUSES = ((NOT_A, B), (A, C))
FORM = (("a", "b", "c"), CLAUSES)
ROW = (True, True, False)
CIRCUIT = compiled(FORM)
WEIGHTS = (("a", (1, 2), (-3, 4)), ("c", (0, 1), (5, 1)))
SENTENCE = ("or", (("name", "a"), ("not", ("alike", ("name", "b"), ("truth", True)))))
TRAIL = trail_of(FORM)
DIAGRAM = diagram_of(FORM, order=("b", "c", "a"))
OTHER = diagram_of((("a", "b", "c"), ((B,),)), order=("b", "c", "a"))
BOTH = (("a",), (("literal", "a", False), ("literal", "a", True)))
PAGES = [(1, 0, "name", "a"), (1, 0, "clause", (A,)), (1, 0, "show", "a"), (0, 0, "name", "b"), (1, 0, "weight", "b", (1, 2), (2, 1))]
BOOK = in_order(PAGES)
# of each function of the interface the arguments of a call, those by name alone behind a None
CALLS = {
    "is_word": ["a"], "is_number": [4], "is_names": [("a", "b")], "is_literal": [A], "is_clause": [(A, B)], "contrary": [A],
    "are_clauses": [CLAUSES], "is_form": [FORM], "names_in": [CLAUSES], "meets": [FORM[0], ROW, (B,)], "met": [FORM, ROW],
    "put": [CLAUSES, A], "put_all": [CLAUSES, (A, B)], "form_put": [FORM, A], "groups": [CLAUSES], "all_rows": [FORM[0]],
    "models": [FORM, (A,)], "count_by_rows": [FORM, (A,)], "count_by_trues": [FORM, (A,)], "is_fraction": [(1, 2)],
    "plus": [(1, 2), (1, 3)], "times": [(1, 2), (2, 3)], "is_weights": [WEIGHTS], "weight_of": [FORM[0], ROW, WEIGHTS, (2, 3)],
    "weigh_by_rows": [FORM, WEIGHTS, (2, 3)], "is_sentence": [SENTENCE], "sentence_names": [SENTENCE],
    "truth_of": [SENTENCE, (False, True)], "formed": [SENTENCE, "q"], "together": [FORM, (("b", "d"), ((B,),))],
    "either": [FORM, (("b", "d"), ((B,),))], "lets_trail": [FORM, TRAIL], "trail_of": [FORM, 40], "counted": [FORM, 40],
    "projected": [FORM, ("a", "c"), 40], "lets_projected": [FORM, ("a", "c"), projected(FORM, ("a", "c"))[1]],
    "is_circuit": [CIRCUIT], "names_under": [CIRCUIT, 0], "met_by": [CIRCUIT, ROW], "node_met": [CIRCUIT, 0, ROW],
    "is_decomposed": [CIRCUIT], "refuted": [CIRCUIT, 0, (NOT_A,)], "lets_apart": [BOTH, 0, 1, apart(BOTH, 0, 1)[1]],
    "lets_parted": [CIRCUIT], "apart": [BOTH, 0, 1], "compiled": [FORM], "circuit_count": [CIRCUIT], "circuit_trues": [CIRCUIT],
    "circuit_literals": [CIRCUIT], "weighed": [CIRCUIT, WEIGHTS, (2, 3)], "heaviest": [CIRCUIT, WEIGHTS, (2, 3)],
    "lightest": [CIRCUIT, WEIGHTS, (2, 3)], "lets_heaviest": [CIRCUIT, WEIGHTS, heaviest(CIRCUIT, WEIGHTS, free=(2, 3)), (2, 3)],
    "lets_lightest": [CIRCUIT, WEIGHTS, lightest(CIRCUIT, WEIGHTS, free=(2, 3)), (2, 3)], "lets_equal": [FORM, CIRCUIT, TRAIL],
    "equal_or_row": [FORM, CIRCUIT], "model_at": [CIRCUIT, 1], "number_of": [CIRCUIT, (True, True, True)],
    "drawn": [CIRCUIT, (1, 0, 1), 2], "conditioned": [CIRCUIT, (A,)], "forgotten": [CIRCUIT, ("c",)], "against": [CIRCUIT, B],
    "backbone": [CIRCUIT], "tied": [CIRCUIT, "a", "b"], "ties": [CIRCUIT], "is_diagram": [DIAGRAM], "diagram_met": [DIAGRAM, ROW],
    "diagram_count": [DIAGRAM], "diagram_of": [FORM, ("b", "a", "c")], "diagram_from": [CIRCUIT, ("b", "a", "c")],
    "both": [DIAGRAM, OTHER], "either_one": [DIAGRAM, OTHER], "other_way": [DIAGRAM], "put_in": [DIAGRAM, (A,)],
    "forgotten_in": [DIAGRAM, ("c",)], "same_or_row": [DIAGRAM, OTHER], "fewest_paper": [DIAGRAM],
    "lets_fewest": [DIAGRAM, fewest_paper(DIAGRAM)], "is_moment": [(1, 2)], "is_page": [PAGES[0]], "is_book": [BOOK],
    "in_order": [PAGES], "joined": [BOOK, BOOK[:1]], "up_to": [BOOK, (0, 5)], "idle": [BOOK, (1, 5)], "form_at": [BOOK, (0, 5)],
    "weights_at": [BOOK, (1, 5)], "shown_at": [BOOK, (0, 5)], "count_at": [BOOK, (0, 5), 40], "shown_count_at": [BOOK, (0, 5), 40],
    "weight_at": [BOOK, (0, 5), (2, 3)], "page_line": [PAGES[1]], "book_lines": [BOOK], "form_lines": [FORM],
    "read_page": ["1 0 name a"], "read_book": [["1 0 name a"]], "read_form": [["names a", "clause a"]],
}


def with_kinds(thing):
    """The thing with the kinds of all in it, as to Python 0 is False and 1 is True."""
    if isinstance(thing, (list, tuple)):
        return (type(thing), [with_kinds(inner) for inner in thing])
    return (type(thing), thing)


def lists_in(thing):
    """The lists, dicts and sets in a thing told."""
    if isinstance(thing, (dict, set)):
        return [thing]
    if not isinstance(thing, (list, tuple)):
        return []
    return [thing] * isinstance(thing, list) + [found for inner in thing for found in lists_in(inner)]


class Calls(unittest.TestCase):
    def each(self):
        for module, listed in FUNCTIONS.items():
            for told in listed:
                function = getattr(importlib.import_module("waycircuits." + module), told.split("(")[0])
                names = list(inspect.signature(function).parameters.values())
                yield function, names, CALLS[told.split("(")[0]]

    def test_all_are_here(self):
        self.assertEqual(set(CALLS), {told.split("(")[0] for listed in FUNCTIONS.values() for told in listed})

    def test_by_place_and_by_name_in_any_order(self):
        for function, names, values in self.each():
            self.assertEqual(len(names), len(values), function)
            by_name = {name.name: value for name, value in zip(names, values)}
            alone = {name.name: value for name, value in zip(names, values) if name.kind is name.KEYWORD_ONLY}
            placed = values[:len(values) - len(alone)]
            wanted = with_kinds(function(*placed, **alone))
            self.assertEqual(with_kinds(function(**by_name)), wanted, function)
            self.assertEqual(with_kinds(function(**dict(reversed(by_name.items())))), wanted, function)
            later = dict(list(by_name.items())[1:])
            self.assertEqual(with_kinds(function(placed[0], **later)), wanted, function)
            if alone:
                with self.assertRaises(TypeError):
                    function(*values)

    def test_what_is_handed_in_stays(self):
        for function, names, values in self.each():
            handed = {name.name: copy.deepcopy(value) for name, value in zip(names, values)}
            function(**handed)
            self.assertEqual(with_kinds(list(handed.values())), with_kinds(values), function)

    def test_what_is_told_is_the_askers_own(self):
        seen = 0
        for function, names, values in self.each():
            by_name = {name.name: value for name, value in zip(names, values)}
            wanted = with_kinds(function(**by_name))
            told = function(**by_name)
            for found in lists_in(told):
                self.assertIs(type(found), list)
                found.clear()
                seen += 1
            self.assertEqual(with_kinds(function(**by_name)), wanted, function)
        self.assertGreater(seen, 2)

    def test_methods_by_name_in_any_order(self):
        counter, session = Counter(), Session()
        self.assertEqual(counter.ask(most=40, form=FORM), Counter().ask(FORM))
        self.assertIs(counter.knows(clauses=CLAUSES), True)
        self.assertIs(session.tell(thing=PAGES[0]), True)
        self.assertEqual(session.tell_all(keep=True, things=PAGES), 4)
        self.assertEqual(session.elder(k=2), BOOK)
        self.assertIsNone(session.strike(thing=PAGES[0]))
        self.assertEqual(session.take_in(other=session), 0)
        self.assertEqual(session.asked(most=9), (2, 1, 0))
        self.assertEqual(Desk().say(row="deeds"), "0")

    def test_all_classes_are_here(self):
        self.assertEqual({name for owners in CLASSES.values() for name in owners}, {"Counter", "Session", "Desk"})

    def test_looks_by_kind_take_any_thing(self):
        looks = [function for function, _, _ in self.each() if function.__name__.startswith(("is_", "are_")) and
                 function.__name__ != "is_decomposed"]
        self.assertEqual(len(looks), 15)
        for function in looks:
            for thing in strange_things():
                before = with_kinds(thing) if not isinstance(thing, str) else thing
                self.assertIs(type(function(thing)), bool)
                self.assertEqual(with_kinds(thing) if not isinstance(thing, str) else thing, before)


class Refusals(unittest.TestCase):
    def test_each_straight_under_its_one_base_with_its_very_fields(self):
        none = (("a",), (("false",),))
        row = "no " + "row"
        told = [
            (lambda: lets_trail(FORM, None), "NoPaper", FormError, ("shape", -1)),
            (lambda: heaviest(none, ()), "NoModel", FormError, (none,)),
            (lambda: counted(FORM, most=0), "NoMore", FormError, (0,)),
            (lambda: forgotten((("a",), (("true",), ("split", "a", 0, 0))), ("a",)), "NoParting", FormError, (1, ())),
            (lambda: Session().back(), "NoPage", FormError, ("back",)),
            (lambda: read_form([]), "NoText", FormError, (0, 0)),
            (lambda: Desk().say(row), "NoRow", FormError, (row,)),
            (lambda: projected(FORM, ("z",)), "NoName", LackError, ("z",)),
            (lambda: model_at(CIRCUIT, -1), "NoNumber", LackError, (-1,)),
            (lambda: Session().elder(5), "NoStep", LackError, (5,))]
        for function, name, base, fields in told:
            with self.assertRaises(base) as caught:
                function()
            error = caught.exception
            self.assertIs(type(error), getattr(errors, name))
            self.assertEqual(type(error).__bases__, (base,))
            self.assertEqual(tuple(vars(error).values()), fields)
            for value, field in zip(vars(error).values(), fields):
                self.assertEqual(type(value), type(field))
        self.assertIs(self.raised(heaviest, none, ()).form, none)
        self.assertIs(self.raised(Desk().say, row).row, row)

    def raised(self, function, *arguments):
        with self.assertRaises(FormError) as caught:
            function(*arguments)
        return caught.exception


class Promises(unittest.TestCase):
    def test_however_a_count_is_told(self):
        for form in mixed_forms(80):
            wanted = count_by_rows(form)
            circuit = compiled(form)
            trail = trail_of(form)
            self.assertEqual({
                counted(form), lets_trail(form, trail), Counter().ask(form)[0], circuit_count(circuit), len(models(form)),
                projected(form, form[0])[0], diagram_count(diagram_of(form)), diagram_count(diagram_from(circuit, order=form[0][::-1]))},
                {wanted})
            self.assertEqual(equal_or_row(form, circuit)[0], "equal")
            self.assertIs(lets_equal(form, circuit, trail), True)
            self.assertEqual(weighed(circuit, WEIGHTS), weigh_by_rows(form, WEIGHTS))
            if wanted:
                self.assertEqual(number_of(circuit, model_at(circuit, wanted - 1)), wanted - 1)

    def test_of_the_same_rows_one_diagram_with_the_fewest_splits(self):
        for seed in range(40):
            circuit = built_circuit(seed)
            told = diagram_from(circuit)
            shown = lets_fewest(told, fewest_paper(told))
            self.assertEqual(shown, 0 if isinstance(told[1], bool) else len(told[1]))

    def test_told_late_twice_undone(self):
        for seed in range(30):
            pages = any_pages(seed)
            book = in_order(pages)
            session, desk = Session(), Desk()
            session.tell_all(pages[::-1])
            for line in book_lines(book[::-1]):
                desk.say("tell " + line)
            for page in pages[:3]:
                session.strike(page) if page in session.book() else None
            while len(session) > 1:
                session.back()
            self.assertEqual(session.book(), book)
            self.assertEqual(session, desk.session)
            self.assertEqual(session.asked()[0], count_at(book))
            self.assertEqual(desk.say("ways"), str(shown_count_at(book)))
            self.assertEqual(read_book(desk.say("book").split(" / ")) if book else (), book)

    def test_told_things_are_handed_in_again(self):
        for book in some_books(30):
            form, weights = form_at(book), weights_at(book)
            self.assertEqual(read_form(form_lines(form)), form)
            self.assertEqual(count_by_rows(form), count_at(book))
            self.assertEqual(weigh_by_rows(form, weights), weight_at(book))
            self.assertEqual(projected(form, shown_at(book))[0], shown_count_at(book))
            if count_at(book):
                circuit = compiled(form)
                for paper, lets in ((heaviest, "lets_heaviest"), (lightest, "lets_lightest")):
                    checker = getattr(importlib.import_module("waycircuits.boundchecker"), lets)
                    told = paper(circuit, weights)
                    self.assertEqual(checker(circuit, weights, told), told[0])

    def test_nothing_hangs_on_what_was_asked_before(self):
        counter = Counter()
        form = mixed_form(7)
        wanted = (trail_of(form), compiled(form), diagram_of(form))
        for other in mixed_forms(20):
            counter.ask(other)
            diagram_of(other, order=other[0][::-1])
        with self.assertRaises(NoMore):
            counted(form, most=1)
        with self.assertRaises(NoPaper):
            lets_trail(form, wanted[0][:-1])
        self.assertEqual((trail_of(form), compiled(form), diagram_of(form)), wanted)

    def test_circuits_by_kind_alone_are_drawn_where_they_are_well_built(self):
        self.assertEqual(diagram_from(chain_circuit()), ((), True))
        for seed in range(20):
            names, nodes = any_circuit(seed)
            self.assertEqual(diagram_from((names, (*nodes, ("true",))))[1], True)

"""Point 9: the refusals and their bases."""

import unittest

from waycircuits import errors

FORM_ERRORS = {
    "NoPaper": ("word", "at"), "NoModel": ("form",), "NoMore": ("rows",), "NoParting": ("node", "row"),
    "NoPage": ("word",), "NoText": ("row", "word"), "NoRow": ("row",),
}
LACK_ERRORS = {"NoName": ("name",), "NoNumber": ("number",), "NoStep": ("number",)}


class Unlooked:
    """A thing that minds being looked at."""

    def __eq__(self, other):
        raise AssertionError("compared")

    def __bool__(self):
        raise AssertionError("tested")

    def __len__(self):
        raise AssertionError("measured")

    def __str__(self):
        raise AssertionError("written")

    __repr__ = __str__
    __hash__ = None


class ErrorsTest(unittest.TestCase):
    def each(self):
        for base, table in ((errors.FormError, FORM_ERRORS), (errors.LackError, LACK_ERRORS)):
            for name, fields in table.items():
                yield base, getattr(errors, name), fields

    def test_bases(self):
        self.assertEqual(errors.FormError.__bases__, (ValueError,))
        self.assertEqual(errors.LackError.__bases__, (LookupError,))
        self.assertFalse(issubclass(errors.FormError, LookupError))

    def test_each_straight_under_its_base(self):
        for base, error, _ in self.each():
            self.assertEqual(error.__bases__, (base,), error)

    def test_all_are_there_and_no_more(self):
        found = {name for name, value in vars(errors).items() if isinstance(value, type)}
        self.assertEqual(found, {"FormError", "LackError", *FORM_ERRORS, *LACK_ERRORS})

    def test_fields_in_order_are_the_very_ones(self):
        for _, error, fields in self.each():
            things = [[number] for number in range(len(fields))]
            made = error(*things)
            self.assertEqual(list(vars(made)), list(fields))
            for field, thing in zip(fields, things):
                self.assertIs(getattr(made, field), thing)

    def test_fields_by_name(self):
        for _, error, fields in self.each():
            told = {field: [field] for field in reversed(fields)}
            made = error(**told)
            for field in fields:
                self.assertIs(getattr(made, field), told[field])

    def test_any_things_not_looked_at(self):
        for _, error, fields in self.each():
            thing = Unlooked()
            made = error(*[thing] * len(fields))
            for field in fields:
                self.assertIs(getattr(made, field), thing)

    def test_no_fewer_and_no_more_fields(self):
        for _, error, fields in self.each():
            with self.assertRaises(TypeError):
                error(*[0] * (len(fields) - 1))
            with self.assertRaises(TypeError):
                error(*[0] * (len(fields) + 1))

    def test_what_is_kept_is_not_a_copy(self):
        row = [1, [2]]
        made = errors.NoRow(row)
        row.append(3)
        self.assertEqual(made.row, [1, [2], 3])

    def test_caught_by_the_base_alone(self):
        for base, error, fields in self.each():
            with self.assertRaises(base):
                raise error(*[0] * len(fields))
            other = errors.LackError if base is errors.FormError else errors.FormError
            self.assertFalse(issubclass(error, other))

"""Point 31: the errors of mayrest.errors."""

import inspect
import unittest

from mayrest import errors
from mayrest.errors import RestError
from tests.samples import any_values

REST_ERRORS = {
    "BadBatch": (),
    "BadBook": ("error",),
    "BadEdit": ("index",),
    "BadPath": ("path",),
    "BadProgram": ("error",),
    "BadReason": ("reason",),
    "BadRule": ("word",),
    "BadText": ("line", "code"),
    "BadUse": ("index",),
    "Breaks": ("rule", "evidence"),
    "Circular": ("evidence",),
    "Clash": ("path",),
    "Full": (),
    "InUse": ("path",),
    "Itself": ("path",),
    "NothingToUndo": (),
    "Overlap": ("path",),
    "Rejected": ("index",),
    "Ring": ("ring",),
    "Taken": ("thing",),
    "TooMany": ("limit",),
    "Unclear": ("name",),
}

LOOKUP_ERRORS = {
    "NoAllowance": ("use",),
    "NoModule": ("path",),
    "NoPart": ("path",),
    "NoRule": ("index",),
    "NoUse": ("use",),
}

FIELDS = {**REST_ERRORS, **LOOKUP_ERRORS}


def made(name, value="app"):
    """An error of the class with this name, with the value as each of its arguments."""
    return getattr(errors, name)(*[value for _ in FIELDS[name]])


class TestClasses(unittest.TestCase):

    def test_there_are_twenty_seven(self):
        self.assertEqual((len(REST_ERRORS), len(LOOKUP_ERRORS)), (22, 5))

    def test_rest_error_is_directly_under_value_error(self):
        self.assertEqual(RestError.__bases__, (ValueError,))

    def test_rest_errors_are_directly_under_rest_error(self):
        for name in REST_ERRORS:
            with self.subTest(error=name):
                self.assertEqual(getattr(errors, name).__bases__, (RestError,))

    def test_the_other_five_are_directly_under_lookup_error(self):
        for name in LOOKUP_ERRORS:
            with self.subTest(error=name):
                self.assertEqual(getattr(errors, name).__bases__, (LookupError,))

    def test_each_is_defined_in_this_file_under_its_name(self):
        for name in ["RestError", *FIELDS]:
            with self.subTest(error=name):
                error = getattr(errors, name)
                self.assertEqual((error.__module__, error.__name__), ("mayrest.errors", name))

    def test_arguments_have_the_names_of_the_fields(self):
        for name, fields in FIELDS.items():
            with self.subTest(error=name):
                if fields:
                    parameters = inspect.signature(getattr(errors, name)).parameters
                    self.assertEqual(tuple(parameters), fields)


class TestKinds(unittest.TestCase):

    def test_rest_errors_are_value_errors_and_no_lookup_errors(self):
        for name in REST_ERRORS:
            with self.subTest(error=name):
                error = made(name)
                self.assertIsInstance(error, RestError)
                self.assertIsInstance(error, ValueError)
                self.assertNotIsInstance(error, LookupError)

    def test_the_other_five_are_lookup_errors_alone(self):
        for name in LOOKUP_ERRORS:
            with self.subTest(error=name):
                error = made(name)
                self.assertIsInstance(error, LookupError)
                self.assertNotIsInstance(error, RestError)
                self.assertNotIsInstance(error, ValueError)
                self.assertNotIsInstance(error, (KeyError, IndexError))

    def test_each_is_of_its_own_class_and_of_no_other_one(self):
        for name in FIELDS:
            error = made(name)
            for other in FIELDS:
                with self.subTest(error=name, other=other):
                    self.assertIs(isinstance(error, getattr(errors, other)), name == other)

    def test_each_is_raised_and_caught_as_its_own_class(self):
        for name, fields in FIELDS.items():
            with self.subTest(error=name):
                error = made(name)
                with self.assertRaises(getattr(errors, name)) as caught:
                    raise error
                self.assertIs(caught.exception, error)
                self.assertEqual([getattr(error, field) for field in fields], ["app"] * len(fields))


class TestFields(unittest.TestCase):

    def test_fields_are_the_very_arguments(self):
        for name, fields in FIELDS.items():
            for value in any_values():
                error = made(name, value)
                for field in fields:
                    with self.subTest(error=name, field=field, value=repr(value)[:40]):
                        self.assertIs(getattr(error, field), value)

    def test_there_are_no_other_fields(self):
        for name, fields in FIELDS.items():
            with self.subTest(error=name):
                self.assertEqual(vars(made(name)), {field: "app" for field in fields})

    def test_two_arguments_stand_in_their_order(self):
        text = errors.BadText(3, 2)
        self.assertEqual((text.line, text.code), (3, 2))
        rule, evidence = ("noring", ("a", "b")), (("a", "b"), ("b", "a"))
        breaks = errors.Breaks(rule, evidence)
        self.assertIs(breaks.rule, rule)
        self.assertIs(breaks.evidence, evidence)

    def test_two_errors_of_one_class_have_fields_of_their_own(self):
        for name, fields in FIELDS.items():
            first, second = made(name, "first"), made(name, "second")
            for field in fields:
                with self.subTest(error=name, field=field):
                    self.assertEqual((getattr(first, field), getattr(second, field)), ("first", "second"))

    def test_arguments_are_not_changed(self):
        for name in FIELDS:
            values = [["app", ["db"]], {"app": ["db"]}]
            for value in values:
                made(name, value)
            with self.subTest(error=name):
                self.assertEqual(values, [["app", ["db"]], {"app": ["db"]}])

    def test_each_says_something_without_an_error(self):
        for name in FIELDS:
            for value in any_values():
                with self.subTest(error=name, value=repr(value)[:40]):
                    self.assertIsInstance(str(made(name, value)), str)

    def test_a_call_without_the_arguments_is_refused(self):
        for name, fields in FIELDS.items():
            if fields:
                with self.subTest(error=name), self.assertRaises(TypeError):
                    getattr(errors, name)()


if __name__ == "__main__":
    unittest.main()

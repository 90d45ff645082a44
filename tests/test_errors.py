"""Point 4: the errors, their fields and their places below SumsError."""

import ast
import inspect
import unittest

from guardsums import errors
from tests.support import any_values

FIELDS = {
    "BadModulus": ("number",), "NotUndone": (), "TooMany": ("what", "many", "most"), "BadKind": ("kind",),
    "BadSize": ("size",), "BadWidth": ("width",), "BadOver": (), "OtherForm": (), "BadBlock": (),
    "BadRule": ("name",), "BadSymbol": ("index",), "BadMatrix": ("index",), "BadColumns": ("index",),
    "BadStart": ("index",), "BadEnd": ("index",), "BadState": ("index",), "BadPolynomial": ("polynomial",),
    "BadNumber": ("number",), "BadMending": (), "Ring": ("name",), "NoRule": ("root",), "BadPlace": ("place",),
    "BadChange": ("index",), "BadTold": (), "BadSample": ("index",), "OtherGuard": (),
}


class Errors(unittest.TestCase):
    def test_all_stand_in_the_file(self):
        tree = ast.parse(inspect.getsource(errors))
        names = [node.name for node in tree.body if isinstance(node, ast.ClassDef)]
        self.assertEqual(names, ["SumsError", *FIELDS])

    def test_kinds(self):
        self.assertEqual(errors.SumsError.__bases__, (ValueError,))
        for name in FIELDS:
            self.assertEqual(getattr(errors, name).__bases__, (errors.SumsError,), name)

    def test_no_error_is_of_another_kind(self):
        for name in FIELDS:
            for other in FIELDS:
                kin = issubclass(getattr(errors, name), getattr(errors, other))
                self.assertEqual(kin, name == other, (name, other))

    def test_fields_by_position(self):
        for name, fields in FIELDS.items():
            for turn in range(len(any_values())):
                values = (any_values()[turn:] + any_values()[:turn])[:len(fields)]
                error = getattr(errors, name)(*values)
                self.check_fields(error, fields, values)

    def test_fields_by_name(self):
        for name, fields in FIELDS.items():
            for turn in range(len(any_values())):
                values = (any_values()[turn:] + any_values()[:turn])[:len(fields)]
                # In the opposite order: names alone tell which is which.
                named = list(zip(fields, values))[::-1]
                self.check_fields(getattr(errors, name)(**dict(named)), fields, values)

    def test_fields_by_position_and_name(self):
        error = errors.TooMany("rows", most=16, many=17)
        self.assertEqual((error.what, error.many, error.most), ("rows", 17, 16))

    def check_fields(self, error, fields, values):
        self.assertEqual(sorted(vars(error)), sorted(fields))
        for field, value in zip(fields, values):
            self.assertIs(getattr(error, field), value)

    def test_values_are_not_changed(self):
        for name, fields in FIELDS.items():
            if fields:
                rows = [[1, 2], {"A": [3]}]
                getattr(errors, name)(*[rows] * len(fields))
                self.assertEqual(rows, [[1, 2], {"A": [3]}])

    def test_as_many_as_fields(self):
        for name, fields in FIELDS.items():
            if fields:
                with self.assertRaises(TypeError):
                    getattr(errors, name)(*[1] * (len(fields) + 1))
                with self.assertRaises(TypeError):
                    getattr(errors, name)(*[1] * (len(fields) - 1))
                with self.assertRaises(TypeError):
                    getattr(errors, name)(**{field + "s": 1 for field in fields})

    def test_raised_and_caught(self):
        for name, fields in FIELDS.items():
            for kind in (getattr(errors, name), errors.SumsError, ValueError):
                with self.assertRaises(kind):
                    raise getattr(errors, name)(*range(len(fields)))

    def test_without_fields(self):
        for name in ("NotUndone", "BadOver", "OtherForm", "BadBlock", "BadMending", "BadTold", "OtherGuard"):
            self.assertEqual(vars(getattr(errors, name)()), {})


if __name__ == "__main__":
    unittest.main()

"""[4] and [11]: the errors."""

import unittest

from pagesworn import errors
from samples import odd_values

FIELDS = {
    "Wrong": ("place",), "NoPlace": ("process", "page"), "NoProcess": ("process",), "NoGroup": ("group",),
    "NoSnapshot": ("snapshot",), "NoTicket": ("process", "lot"), "NoText": ("line",), "NoCommand": ("line",),
    "Nothing": (), "TooMany": ("most",),
}


class Errors(unittest.TestCase):
    def test_each_class_stands_under_two_and_no_other(self):
        for name in FIELDS:
            with self.subTest(name=name):
                self.assertEqual(getattr(errors, name).__bases__, (errors.SwornError,))
        self.assertEqual(errors.SwornError.__bases__, (ValueError,))

    def test_there_are_no_others(self):
        found = [name for name in vars(errors) if isinstance(getattr(errors, name), type)]
        self.assertEqual(sorted(found), sorted(list(FIELDS) + ["SwornError"]))

    def test_fields_are_the_very_objects(self):
        values = odd_values() + [[1, [2]], {"a": []}, 10 ** 60]
        for name, fields in FIELDS.items():
            for value in values:
                parts = [value, [value]][:len(fields)]
                error = getattr(errors, name)(*parts)
                self.assertEqual(sorted(vars(error)), sorted(fields))
                for field, part in zip(fields, parts):
                    self.assertIs(getattr(error, field), part)

    def test_a_list_that_is_kept_is_not_copied(self):
        lot = [1, 2]
        error = errors.NoTicket(None, lot)
        lot.append(3)
        self.assertEqual((error.process, error.lot), (None, [1, 2, 3]))

    def test_caught_under_both_names(self):
        for name, fields in FIELDS.items():
            for above in (errors.SwornError, ValueError):
                with self.assertRaises(above):
                    raise getattr(errors, name)(*fields)

    def test_as_many_parts_as_fields(self):
        for name, fields in FIELDS.items():
            with self.subTest(name=name), self.assertRaises(TypeError):
                getattr(errors, name)(*fields, 1)

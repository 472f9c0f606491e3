"""The refusals: their classes and their fields."""

import unittest

from trussyard import errors

FIELDS = {
    "NoNumber": [],
    "NoText": [],
    "NoWay": [],
    "PinThere": ["pin"],
    "SpotTaken": ["pin"],
    "NoPin": ["pin"],
    "PinBusy": ["pin", "bar"],
    "BarThere": ["bar"],
    "NoBar": ["bar"],
    "NoLength": ["bar"],
    "TooMany": [],
    "NoGrip": ["bar"],
    "NoBound": ["bar"],
    "NoLine": ["at"],
    "NoLoad": [],
}
VALUES = {"pin": "a pin's name", "bar": "a bar's name", "at": 7}


def made(name):
    return getattr(errors, name)(*[VALUES[field] for field in FIELDS[name]])


class ErrorsTest(unittest.TestCase):
    def test_fifteen_classes_under_yard_error(self):
        self.assertEqual(len(FIELDS), 15)
        self.assertEqual(errors.YardError.__bases__, (ValueError,))
        for name in FIELDS:
            with self.subTest(name):
                self.assertEqual(getattr(errors, name).__bases__, (errors.YardError,))

    def test_each_is_taken_as_any_refusal(self):
        for name in FIELDS:
            for kind in (getattr(errors, name), errors.YardError, ValueError):
                with self.subTest(name, kind=kind), self.assertRaises(kind):
                    raise made(name)

    def test_none_is_taken_as_another(self):
        for name in FIELDS:
            for other in FIELDS:
                if other != name:
                    with self.subTest(name, other=other):
                        self.assertNotIsInstance(made(name), getattr(errors, other))

    def test_fields(self):
        for name, fields in FIELDS.items():
            error = made(name)
            for field in fields:
                with self.subTest(name, field=field):
                    self.assertEqual(getattr(error, field), VALUES[field])

    def test_fields_by_their_names(self):
        for name, fields in FIELDS.items():
            error = getattr(errors, name)(**{field: VALUES[field] for field in fields})
            for field in fields:
                with self.subTest(name, field=field):
                    self.assertEqual(getattr(error, field), VALUES[field])


if __name__ == "__main__":
    unittest.main()

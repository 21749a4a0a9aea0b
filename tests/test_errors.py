import unittest

from fairshown import errors

FAMILIES = ("PaperError", "RecordError", "AuditError", "TextError")

# error: (family, fields)
ERRORS = {
    "InvalidPaper": ("PaperError", ("word", "at")),
    "UnknownOrder": ("RecordError", ("n",)),
    "UnknownMember": ("RecordError", ("member",)),
    "NotUsable": ("RecordError", ("word", "at")),
    "InvalidEvent": ("AuditError", ("event", "reason")),
    "NothingToUndo": ("AuditError", ("steps",)),
    "InvalidText": ("TextError", ("line", "field")),
    "InvalidRow": ("TextError", ("row",)),
}

FIELD_VALUES = (None, True, 1, -1, 10 ** 60, "", "open", (), ("ann", None), ["ann", [1]], (2, 1), object())


class Families(unittest.TestCase):
    def test_base_of_all(self):
        self.assertEqual(errors.ShownError.__bases__, (ValueError,))

    def test_families(self):
        for family in FAMILIES:
            self.assertEqual(getattr(errors, family).__bases__, (errors.ShownError,))

    def test_errors_are_derived_directly_from_their_family(self):
        for name, (family, _) in ERRORS.items():
            self.assertEqual(getattr(errors, name).__bases__, (getattr(errors, family),), name)

    def test_nothing_else_is_defined(self):
        classes = {name for name in vars(errors) if isinstance(getattr(errors, name), type)}
        self.assertEqual(classes, {"ShownError", *FAMILIES, *ERRORS})


class Fields(unittest.TestCase):
    def test_fields_by_position_are_kept_as_they_are(self):
        for name, (_, fields) in ERRORS.items():
            for value in FIELD_VALUES:
                error = getattr(errors, name)(*[value] * len(fields))
                for field in fields:
                    self.assertIs(getattr(error, field), value)

    def test_fields_by_name(self):
        for name, (_, fields) in ERRORS.items():
            error = getattr(errors, name)(**{field: [field] for field in fields})
            self.assertEqual(vars(error), {field: [field] for field in fields})

    def test_order_of_fields(self):
        for name, (_, fields) in ERRORS.items():
            error = getattr(errors, name)(*fields)
            self.assertEqual(vars(error), {field: field for field in fields})

    def test_fewer_and_more_fields_are_refused(self):
        for name, (_, fields) in ERRORS.items():
            with self.assertRaises(TypeError):
                getattr(errors, name)(*fields[1:])
            with self.assertRaises(TypeError):
                getattr(errors, name)(*fields, 1)

    def test_raised_and_caught_as_the_family(self):
        with self.assertRaises(errors.RecordError):
            raise errors.NotUsable("place", -1)
        with self.assertRaises(ValueError):
            raise errors.InvalidRow("")


if __name__ == "__main__":
    unittest.main()

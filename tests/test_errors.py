import unittest

from nevermet import errors

WRONG = {
    "InvalidTerm": ("thing",), "InvalidRule": ("reason",), "InvalidFunction": ("reason",),
    "InvalidPackage": ("field", "index"), "NoHouse": ("reason", "name"), "Refused": ("complaints",),
    "NotNext": ("field", "index"), "Mismatch": ("name", "other"), "BadPaper": ("index",), "InvalidText": ("line",),
    "InvalidCommand": ("word",), "InvalidLimit": ("limit",),
}
LACKING = {"UnknownWord": ("word",), "NoAnswer": ("question",), "NoEdition": ("name", "edition")}
OTHERS = {"NothingToUndo": (), "TooMany": ("limit",)}
VALUES = (None, True, 12, "need", ("a", ["b"]), [1], {"a": 1}, "x" * 4000)


class Errors(unittest.TestCase):
    def test_base_classes(self):
        self.assertEqual(errors.NeverError.__bases__, (ValueError,))
        for name in WRONG:
            self.assertTrue(issubclass(getattr(errors, name), errors.NeverError), name)
        for name in LACKING:
            self.assertTrue(issubclass(getattr(errors, name), KeyError), name)
        self.assertTrue(issubclass(errors.NothingToUndo, LookupError))
        self.assertFalse(issubclass(errors.NothingToUndo, KeyError))
        self.assertTrue(issubclass(errors.TooMany, OverflowError))

    def test_none_is_a_subclass_of_another_one(self):
        names = [*WRONG, *LACKING, *OTHERS]
        for name in names:
            for other in names:
                if name != other:
                    self.assertFalse(issubclass(getattr(errors, name), getattr(errors, other)), (name, other))
        for name in [*LACKING, *OTHERS]:
            self.assertFalse(issubclass(getattr(errors, name), ValueError), name)

    def test_arguments_are_kept(self):
        for name, fields in {**WRONG, **LACKING, **OTHERS}.items():
            kind = getattr(errors, name)
            for at in range(len(VALUES)):
                told = [VALUES[at], VALUES[at - 1]][:len(fields)]
                by_position = kind(*told)
                by_name = kind(**dict(zip(fields, told)))
                for field, value in zip(fields, told):
                    self.assertIs(getattr(by_position, field), value)
                    self.assertIs(getattr(by_name, field), value)
                self.assertIsInstance(str(by_name), str)

    def test_they_are_raised_and_caught(self):
        with self.assertRaises(errors.NeverError):
            raise errors.BadPaper(3)
        with self.assertRaises(KeyError):
            raise errors.NoEdition(name="a", edition=2)


if __name__ == "__main__":
    unittest.main()

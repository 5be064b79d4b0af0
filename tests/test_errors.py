import unittest

from everyfoe import errors

FIELDS = {
    "BadText": ["line", "column"],
    "BadNumber": ["what", "number"],
    "BadName": ["name"],
    "BadChoice": ["place"],
    "BadPaper": ["what"],
    "Untold": ["board", "words"],
    "NotPlain": ["what"],
    "HasLetter": [],
    "NoLetter": [],
    "AllBarred": ["standing"],
    "Unlike": ["what"],
    "TooMany": ["what", "many", "limit"],
    "TooLarge": ["what", "number", "limit"],
    "NoSolution": [],
    "NoName": ["name"],
    "TakenName": ["name"],
    "NotKept": ["promise", "witness"],
    "NothingToUndo": [],
    "NothingToRedo": [],
}
VALUES = [0, -3, True, None, "", "a b", (1, 2), [1, [2]], {"a": 1}, 7 ** 9000, object(), ValueError("x")]


class ErrorsTest(unittest.TestCase):
    def test_there_are_nineteen(self):
        found = [name for name, value in vars(errors).items() if isinstance(value, type)]
        self.assertEqual(sorted(found), sorted([*FIELDS, "FoeError"]))
        self.assertEqual(len(FIELDS), 19)

    def test_foe_error_is_a_value_error(self):
        self.assertEqual(errors.FoeError.__bases__, (ValueError,))

    def test_each_derives_from_foe_error_alone(self):
        for name in FIELDS:
            self.assertEqual(getattr(errors, name).__bases__, (errors.FoeError,), name)

    def test_none_is_another(self):
        for name, fields in FIELDS.items():
            error = getattr(errors, name)(*fields)
            self.assertIsInstance(error, errors.FoeError)
            self.assertIsInstance(error, ValueError)
            for other in FIELDS:
                self.assertEqual(isinstance(error, getattr(errors, other)), name == other)

    def test_fields_are_kept_as_they_are_given(self):
        for name, fields in FIELDS.items():
            for shift in range(len(VALUES)):
                given = [VALUES[(shift + k) % len(VALUES)] for k in range(len(fields))]
                error = getattr(errors, name)(*given)
                for field, value in zip(fields, given):
                    self.assertIs(getattr(error, field), value)
                self.assertEqual(list(vars(error)), fields)

    def test_each_is_raised_and_caught(self):
        for name, fields in FIELDS.items():
            kind = getattr(errors, name)
            with self.assertRaises(kind) as caught:
                raise kind(*fields)
            for field in fields:
                self.assertEqual(getattr(caught.exception, field), field)

    def test_the_number_of_fields_is_fixed(self):
        for name, fields in FIELDS.items():
            if fields:
                for given in (fields[1:], [*fields, 1]):
                    with self.assertRaises(TypeError):
                        getattr(errors, name)(*given)

import unittest

from threadmark import errors

BELOW_THREAD_ERROR = {
    "InvalidNode": "node",
    "InvalidMark": "node",
    "InvalidName": "name",
    "InvalidEdge": "name",
    "NodeTaken": "node",
    "EdgeTaken": "name",
    "NotBare": "node",
    "InvalidWord": "position",
    "InvalidStep": "index",
    "InvalidString": "value",
    "LengthMismatch": None,
    "InvalidDrawing": "node",
    "InvalidForm": None,
    "NoTable": None,
    "LimitExceeded": "limit",
    "InvalidLimit": "limit",
    "InvalidWebName": "name",
    "NameTaken": "name",
    "InvalidCommand": "index",
    "ParseError": None,
    "InvalidDocument": "line",
}
BELOW_MISSING = {"UnknownNode": "node", "UnknownEdge": "name", "UnknownWeb": "name", "EmptyHistory": None}
ALL = {**BELOW_THREAD_ERROR, **BELOW_MISSING}


class ErrorsTest(unittest.TestCase):
    def test_bases(self):
        self.assertEqual((ValueError,), errors.ThreadError.__bases__)
        self.assertEqual((LookupError,), errors.Missing.__bases__)
        for name in BELOW_THREAD_ERROR:
            self.assertEqual((errors.ThreadError,), getattr(errors, name).__bases__, name)
        for name in BELOW_MISSING:
            self.assertEqual((errors.Missing,), getattr(errors, name).__bases__, name)

    def test_no_error_is_below_another_one(self):
        for one in ALL:
            for other in ALL:
                if one != other:
                    self.assertFalse(issubclass(getattr(errors, one), getattr(errors, other)), (one, other))
            self.assertEqual(one in BELOW_THREAD_ERROR, issubclass(getattr(errors, one), ValueError))
            self.assertEqual(one in BELOW_MISSING, issubclass(getattr(errors, one), LookupError))

    def test_fields_and_codes(self):
        for name, field in ALL.items():
            kind = getattr(errors, name)
            self.assertEqual(name, kind.__name__)
            for value in (0, -7, 10 ** 29, "", "some text"):
                error = kind() if field is None else kind(value)
                self.assertEqual(name.lower(), error.code)
                if field is not None:
                    self.assertEqual(value, getattr(error, field))

    def test_bases_have_codes_too(self):
        self.assertEqual("threaderror", errors.ThreadError().code)
        self.assertEqual("missing", errors.Missing().code)

    def test_number_of_fields(self):
        for name, field in ALL.items():
            kind = getattr(errors, name)
            wrong = [(1,), (1, 2)] if field is None else [(), (1, 2)]
            for fields in wrong:
                with self.assertRaises(TypeError):
                    kind(*fields)

    def test_caught_by_base(self):
        for name, field in ALL.items():
            kind = getattr(errors, name)
            base = errors.ThreadError if name in BELOW_THREAD_ERROR else errors.Missing
            with self.assertRaises(base):
                raise kind() if field is None else kind(3)

    def test_file_defines_these_errors_only(self):
        defined = {name for name, value in vars(errors).items() if isinstance(value, type)}
        self.assertEqual(set(ALL) | {"ThreadError", "Missing"}, defined)


if __name__ == "__main__":
    unittest.main()

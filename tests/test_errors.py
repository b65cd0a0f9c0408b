"""The error classes: what each derives from, and what it keeps."""

import unittest

from gluewhole import errors

PLAIN = (
    "InvalidRow", "InvalidGrid", "InvalidCell", "InvalidSpace", "InvalidMap", "InvalidTable", "InvalidTelling",
    "InvalidRows", "InvalidClaim", "InvalidOperation")
KEEPING = {
    "ParseError": ("GlueError", "at"), "InvalidNumber": (IndexError, "given"), "UnknownName": (KeyError, "wanted"),
    "TooMany": (OverflowError, "most"), "Refused": (ArithmeticError, "reason")}


class Derivation(unittest.TestCase):
    def test_glue_error_is_a_value_error(self):
        self.assertEqual(errors.GlueError.__bases__, (ValueError,))

    def test_form_errors_derive_directly_from_glue_error(self):
        for name in PLAIN + ("ParseError",):
            self.assertEqual(getattr(errors, name).__bases__, (errors.GlueError,), name)

    def test_others_derive_directly_from_errors_of_python(self):
        for name in ("InvalidNumber", "UnknownName", "TooMany", "Refused"):
            self.assertEqual(getattr(errors, name).__bases__, (KEEPING[name][0],), name)
            self.assertFalse(issubclass(getattr(errors, name), errors.GlueError))

    def test_names_are_those_of_the_classes(self):
        for name in PLAIN + tuple(KEEPING) + ("GlueError",):
            self.assertEqual(getattr(errors, name).__name__, name)
            self.assertEqual(getattr(errors, name).__module__, "gluewhole.errors")


class Keeping(unittest.TestCase):
    def test_they_keep_any_value(self):
        for name, (_, attribute) in KEEPING.items():
            for value in (None, True, 4, -1, 10 ** 99, "word", "", (), ("bare", (0,)), [1], {"a": 1}):
                error = getattr(errors, name)(value)
                self.assertIs(getattr(error, attribute), value)
                with self.assertRaises(getattr(errors, name)) as caught:
                    raise error
                self.assertIs(getattr(caught.exception, attribute), value)
                str(error)

    def test_they_take_the_told_name(self):
        self.assertEqual(errors.ParseError(at=3).at, 3)
        self.assertEqual(errors.InvalidNumber(given=3).given, 3)
        self.assertEqual(errors.UnknownName(wanted="a").wanted, "a")
        self.assertEqual(errors.TooMany(most=60).most, 60)
        self.assertEqual(errors.Refused(reason=("there",)).reason, ("there",))

    def test_they_want_one_value(self):
        for name in KEEPING:
            with self.assertRaises(TypeError):
                getattr(errors, name)()

    def test_the_others_take_a_message(self):
        for name in PLAIN + ("GlueError",):
            self.assertIn("why", str(getattr(errors, name)("why")))


if __name__ == "__main__":
    unittest.main()

"""Part 1a: errors."""

import unittest

from lentcells import errors

FROM_CLAIM_ERROR = ("InvalidFrame", "InvalidTerm", "InvalidClaim", "InvalidSituation", "InvalidQuestion",
                    "InvalidFunction", "InvalidProgram", "InvalidOperation", "InvalidName", "ParseError")
WITH_ARGUMENT = (("ParseError", errors.ClaimError, "index"), ("InvalidNumber", IndexError, "number"),
                 ("UnknownName", KeyError, "name"), ("NothingToUndo", LookupError, "asked"),
                 ("TooMany", OverflowError, "bound"), ("Refused", ArithmeticError, "reason"))


class ErrorsTest(unittest.TestCase):
    """Each error is caught as what it derives from, and keeps what it is made with."""

    def test_bases(self):
        self.assertEqual((ValueError,), errors.ClaimError.__bases__)
        for name in FROM_CLAIM_ERROR:
            self.assertEqual((errors.ClaimError,), getattr(errors, name).__bases__, name)
        for name, base, kept in WITH_ARGUMENT:
            self.assertEqual((base,), getattr(errors, name).__bases__, name)

    def test_caught(self):
        for name in FROM_CLAIM_ERROR + ("InvalidNumber", "UnknownName", "NothingToUndo", "TooMany", "Refused"):
            kind = getattr(errors, name)
            for base in (kind, kind.__bases__[0]):
                with self.assertRaises(base):
                    raise kind("told")
            self.assertEqual(name in FROM_CLAIM_ERROR, issubclass(kind, errors.ClaimError), name)
            self.assertEqual(name in FROM_CLAIM_ERROR, issubclass(kind, ValueError), name)

    def test_what_is_kept(self):
        for name, base, kept in WITH_ARGUMENT:
            for value in (None, 0, 7, True, -10 ** 99, "word", (), ("a", 1), [1], {"a": []}):
                self.assertEqual(value, getattr(getattr(errors, name)(value), kept), name)
                self.assertIs(type(value), type(getattr(getattr(errors, name)(value), kept)), name)

    def test_messages(self):
        for name in FROM_CLAIM_ERROR[:-1] + ("ClaimError",):
            self.assertEqual("why it is so", str(getattr(errors, name)("why it is so")))
        for name, base, kept in WITH_ARGUMENT:
            self.assertNotEqual("", str(getattr(errors, name)(3)))


if __name__ == "__main__":
    unittest.main()

"""Promise [1.1]: the errors."""

import unittest

from answeredabove import errors

MESSAGES = (
    "InvalidProgram", "InvalidMode", "InvalidTable", "InvalidRun", "InvalidFact", "InvalidDerivation",
    "InvalidOperation", "InvalidCommand",
)
KEPT = {
    "UnknownName": (KeyError, "name"), "UnknownSite": (KeyError, "site"), "InvalidNumber": (IndexError, "value"),
    "NothingToUndo": (LookupError, "many"), "Refused": (ArithmeticError, "name"), "TooMany": (OverflowError, "limit"),
}


class TestErrors(unittest.TestCase):
    def test_all_stand_in_this_module(self):
        for name in ("AnswerError", "ParseError", *MESSAGES, *KEPT):
            self.assertEqual(getattr(errors, name).__module__, "answeredabove.errors")

    def test_answer_error(self):
        self.assertEqual(errors.AnswerError.__bases__, (ValueError,))

    def test_directly_derived_from_answer_error(self):
        for name in (*MESSAGES, "ParseError"):
            self.assertEqual(getattr(errors, name).__bases__, (errors.AnswerError,), name)

    def test_take_a_message(self):
        for name in MESSAGES:
            with self.assertRaises(ValueError) as caught:
                raise getattr(errors, name)("why")
            self.assertEqual(caught.exception.args, ("why",))

    def test_others_are_no_answer_errors(self):
        for name, (base, _) in KEPT.items():
            self.assertEqual(getattr(errors, name).__bases__, (base,), name)
            self.assertFalse(issubclass(getattr(errors, name), errors.AnswerError), name)

    def test_not_derived_from_one_another(self):
        names = (*MESSAGES, *KEPT, "ParseError")
        for one in names:
            for other in names:
                if one != other:
                    self.assertFalse(issubclass(getattr(errors, one), getattr(errors, other)), (one, other))

    def test_keep_what_they_take(self):
        values = ("need", "", 0, -1, None, True, ["main", 0], ("main", 0), {}, errors.InvalidMode("x"))
        for value in values:
            self.assertIs(errors.ParseError(value).line, value)
            for name, (base, attribute) in KEPT.items():
                with self.assertRaises(base) as caught:
                    raise getattr(errors, name)(value)
                self.assertIs(getattr(caught.exception, attribute), value)

    def test_are_not_equal_to_what_they_take(self):
        self.assertNotEqual(errors.UnknownName("need"), "need")


if __name__ == "__main__":
    unittest.main()

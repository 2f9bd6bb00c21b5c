import unittest

from sugartrue import errors


class Errors(unittest.TestCase):
    def test_all_are_under_the_base_class(self):
        for name in ("TextError", "FormError", "MatchError", "ScopeError", "LimitError", "StuckError"):
            with self.subTest(name=name):
                kind = getattr(errors, name)
                self.assertTrue(issubclass(kind, errors.SugarError))
                self.assertEqual(kind.__module__, "sugartrue.errors")
        self.assertTrue(issubclass(errors.SugarError, ValueError))

    def test_none_of_them_is_another_one(self):
        kinds = [errors.TextError, errors.FormError, errors.MatchError,
                 errors.ScopeError, errors.LimitError, errors.StuckError]
        for one in kinds:
            for other in kinds:
                self.assertEqual(issubclass(one, other), one is other)

    def test_a_text_error_is_created_with_its_position(self):
        self.assertEqual(errors.TextError(7).at, 7)
        self.assertEqual(errors.TextError(0).at, 0)

    def test_the_other_errors_are_created_with_a_text(self):
        for kind in (errors.SugarError, errors.FormError, errors.StuckError):
            self.assertEqual(str(kind("why")), "why")


if __name__ == "__main__":
    unittest.main()

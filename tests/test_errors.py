import unittest

from wordsapart import errors

KINDS = [errors.NoText, errors.NoLine, errors.NoSize, errors.NoWord, errors.Near]


class Errors(unittest.TestCase):
    def test_any_refusal_stands_straight_under_value_error(self):
        self.assertEqual(errors.ApartError.__bases__, (ValueError,))

    def test_each_kind_stands_straight_under_apart_error_and_under_no_other(self):
        for kind in KINDS:
            self.assertEqual(kind.__bases__, (errors.ApartError,), kind)

    def test_the_kinds_are_five_and_defined_in_their_file(self):
        self.assertEqual(len(set(KINDS)), 5)
        for kind in KINDS + [errors.ApartError]:
            self.assertEqual(kind.__module__, "wordsapart.errors")
        names = [kind.__name__ for kind in KINDS]
        self.assertEqual(names, ["NoText", "NoLine", "NoSize", "NoWord", "Near"])

    def test_each_is_made_with_a_text_and_raised_and_caught(self):
        for kind in KINDS + [errors.ApartError]:
            self.assertEqual(str(kind("what is wrong")), "what is wrong")
            for caught in (kind, errors.ApartError, ValueError):
                with self.assertRaises(caught):
                    raise kind("what is wrong")

    def test_none_is_caught_as_another(self):
        for kind in KINDS:
            for other in KINDS:
                self.assertEqual(isinstance(kind("x"), other), kind == other)


if __name__ == "__main__":
    unittest.main()

import unittest

from primefold.errors import FoldError, NoPart, NoSum, NoText


class Errors(unittest.TestCase):
    def test_a_fold_error_is_a_value_error(self):
        self.assertTrue(issubclass(FoldError, ValueError))

    def test_refusals_stand_below_fold_error(self):
        for refusal in (NoSum, NoText, NoPart):
            self.assertTrue(issubclass(refusal, FoldError), refusal)
            self.assertIsNot(refusal, FoldError)

    def test_no_refusal_stands_below_another(self):
        for one in (NoSum, NoText, NoPart):
            for other in (NoSum, NoText, NoPart):
                if one is not other:
                    self.assertFalse(issubclass(one, other), (one, other))

    def test_names(self):
        names = [error.__name__ for error in (FoldError, NoSum, NoText, NoPart)]
        self.assertEqual(names, ["FoldError", "NoSum", "NoText", "NoPart"])

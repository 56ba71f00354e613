import unittest

from unseen.errors import BadMixture, BadTable, BadText, CardError, NoCard, Unlike


class TestErrors(unittest.TestCase):
    def test_card_error_stands_straight_under_value_error(self):
        self.assertEqual(CardError.__bases__, (ValueError,))

    def test_each_refusal_stands_straight_under_card_error(self):
        for refusal in (BadTable, BadMixture, NoCard, Unlike, BadText):
            self.assertEqual(refusal.__bases__, (CardError,))

    def test_each_refusal_bears_its_own_name(self):
        refusals = (CardError, BadTable, BadMixture, NoCard, Unlike, BadText)
        names = [refusal.__name__ for refusal in refusals]
        self.assertEqual(names, ["CardError", "BadTable", "BadMixture", "NoCard", "Unlike", "BadText"])

    def test_a_refusal_is_taken_as_a_card_error(self):
        for refusal in (BadTable, BadMixture, NoCard, Unlike, BadText):
            with self.assertRaises(CardError):
                raise refusal("words")


if __name__ == "__main__":
    unittest.main()

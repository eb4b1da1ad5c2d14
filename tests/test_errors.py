import unittest

from stintwise.errors import NoDeed, NoHour, NoText, NotNow, StintError, TooMany, Wrong

NUMBERS = [0, 1, -1, 5, 48, 5000, 10 ** 12, -10 ** 12, 10 ** 69 + 7, -(10 ** 69) - 7]


class Refusals(unittest.TestCase):

    def test_each_stands_straight_under_stint_error(self):
        self.assertEqual(StintError.__bases__, (ValueError,))
        kinds = [Wrong, NotNow, TooMany, NoHour, NoDeed, NoText]
        self.assertEqual(len(set(kinds)), 6)
        for kind in kinds:
            self.assertEqual(kind.__bases__, (StintError,))

    def test_none_is_taken_for_another_one(self):
        refusals = [Wrong(1), NotNow(1), TooMany(1), NoHour(), NoDeed(), NoText()]
        kinds = [Wrong, NotNow, TooMany, NoHour, NoDeed, NoText]
        for at, refusal in enumerate(refusals):
            self.assertIsInstance(refusal, StintError)
            self.assertIsInstance(refusal, ValueError)
            self.assertEqual([isinstance(refusal, kind) for kind in kinds], [at == place for place in range(6)])

    def test_fields_are_the_numbers_handed_in(self):
        for number in NUMBERS:
            self.assertIs(Wrong(number).at, number)
            self.assertIs(NotNow(number).at, number)
            self.assertIs(TooMany(number).limit, number)

    def test_fields_belong_to_each_refusal_alone(self):
        one, other = Wrong(1), Wrong(2)
        self.assertEqual((one.at, other.at), (1, 2))
        one, other = NotNow(1), NotNow(2)
        self.assertEqual((one.at, other.at), (1, 2))
        one, other = TooMany(1), TooMany(2)
        self.assertEqual((one.limit, other.limit), (1, 2))

    def test_each_can_be_raised_and_its_words_read(self):
        for refusal in [Wrong(10 ** 69), NotNow(-3), TooMany(5000), NoHour(), NoDeed(), NoText()]:
            with self.assertRaises(StintError) as taken:
                raise refusal
            self.assertIs(taken.exception, refusal)
            self.assertIsInstance(str(refusal), str)
            self.assertIsInstance(repr(refusal), str)


if __name__ == "__main__":
    unittest.main()

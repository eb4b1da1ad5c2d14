import unittest

from helper import BIG, NO_WHOLES
from stintwise.wholes import is_amount, is_whole

MANY_FIGURES = 10 ** 69 + 1


class Wholes(unittest.TestCase):

    def test_whole_numbers(self):
        for number in [0, 1, 2, -1, -2, BIG - 1, BIG, BIG + 1, -BIG, MANY_FIGURES, -MANY_FIGURES]:
            self.assertIs(is_whole(number), True, number)

    def test_amounts(self):
        for number in [0, 1, 2, 10 ** 6, BIG - 1, BIG]:
            self.assertIs(is_amount(number), True, number)

    def test_whole_numbers_that_are_no_amounts(self):
        for number in [-1, -2, -BIG, BIG + 1, BIG + 2, 10 ** 13, MANY_FIGURES, -MANY_FIGURES]:
            self.assertIs(is_amount(number), False, number)

    def test_things_of_other_kinds(self):
        for thing in NO_WHOLES:
            self.assertIs(is_whole(thing), False, thing)
            self.assertIs(is_amount(thing), False, thing)


if __name__ == "__main__":
    unittest.main()

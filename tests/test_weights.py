import unittest

from farhold.weights import parted
from helper import SIXTY


class PartedTest(unittest.TestCase):
    def test_one_goes_whole(self):
        self.assertEqual(parted(1), (0, 1))

    def test_two_and_three(self):
        self.assertEqual(parted(2), (1, 1))
        self.assertEqual(parted(3), (2, 1))

    def test_even_weights_are_halved(self):
        self.assertEqual(parted(4), (2, 2))
        self.assertEqual(parted(10), (5, 5))
        self.assertEqual(parted(1000), (500, 500))

    def test_of_odd_weights_the_half_that_goes_is_rounded_down(self):
        self.assertEqual(parted(5), (3, 2))
        self.assertEqual(parted(7), (4, 3))
        self.assertEqual(parted(999), (500, 499))

    def test_nothing_is_lost_and_something_always_goes(self):
        for weight in range(1, 500):
            stays, goes = parted(weight)
            self.assertEqual(stays + goes, weight)
            self.assertGreater(goes, 0)
            self.assertEqual(goes, max(1, weight // 2))

    def test_weights_of_sixty_figures(self):
        self.assertEqual(parted(10 ** 59), (5 * 10 ** 58, 5 * 10 ** 58))
        self.assertEqual(parted(SIXTY), (5 * 10 ** 59, 5 * 10 ** 59 - 1))

    def test_told_is_a_tuple_of_whole_numbers(self):
        for weight in (1, 2, 3, SIXTY):
            told = parted(weight)
            self.assertIs(type(told), tuple)
            self.assertEqual([type(number) for number in told], [int, int])


if __name__ == "__main__":
    unittest.main()

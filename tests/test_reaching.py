import unittest

from farhold.reaching import reached


class ReachedTest(unittest.TestCase):
    def test_goes_over_several_holds_and_rings(self):
        holds = {1: (2,), 2: (3,), 3: (1,), 4: (1,), 5: ()}
        self.assertEqual(sorted(reached([2], holds)), [1, 2, 3])
        self.assertEqual(sorted(reached([4], holds)), [1, 2, 3, 4])

    def test_what_is_not_told_of_is_passed_by(self):
        self.assertEqual(sorted(reached([1, 9], {1: (8, 2), 2: (7,)})), [1, 2])

    def test_from_nothing_nothing_is_reached(self):
        self.assertEqual(sorted(reached([], {1: (1,)})), [])

    def test_a_long_chain(self):
        holds = {number: (number + 1,) for number in range(5000)}
        self.assertEqual(len(reached([0], holds)), 5000)

    def test_what_is_handed_in_stays(self):
        starts, holds = [1], {1: [2], 2: [1]}
        reached(starts, holds)
        self.assertEqual((starts, holds), ([1], {1: [2], 2: [1]}))


if __name__ == "__main__":
    unittest.main()

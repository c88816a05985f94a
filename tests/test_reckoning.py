import itertools
import math
import unittest

from unstruck.reckoning import falling, number_at, signed, ways


class Reckoning(unittest.TestCase):
    def test_number_at(self):
        self.assertEqual([number_at([1, 3, 1], place) for place in range(5)], [1, 3, 1, 0, 0])
        self.assertEqual(number_at([], 0), 0)

    def test_falling(self):
        self.assertEqual([falling(5, factors) for factors in range(8)], [1, 5, 20, 60, 120, 120, 0, 0])
        self.assertEqual([falling(number, number) for number in range(9)], [math.factorial(k) for k in range(9)])
        self.assertEqual(falling(-2, 3), -24)

    def test_ways(self):
        for things, taken in itertools.product(range(12), repeat=2):
            self.assertEqual(ways(things, taken), math.comb(things, taken), (things, taken))
        self.assertEqual(ways(3, -1), 0)

    def test_signed(self):
        self.assertEqual([signed(7, turns) for turns in range(4)], [7, -7, 7, -7])


if __name__ == "__main__":
    unittest.main()

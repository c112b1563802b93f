"""Point 5: the greatest divisor, the least round, the least part."""

import math
import unittest

from shiftmeet.wholes import divisor, least_part, least_round

HUNDRED = 10 ** 100 - 1


def divides(part, number):
    return number % part == 0


class Divisor(unittest.TestCase):
    def told(self, one, other, answer):
        for got in (divisor(one, other), divisor(other, one)):
            self.assertEqual(got, answer, (one, other))
            self.assertIs(type(got), int)

    def test_ordinary_numbers(self):
        self.told(12, 18, 6)
        self.told(35, 64, 1)
        self.told(7, 7, 7)
        self.told(6, 42, 6)
        self.told(1, 99, 1)

    def test_zero(self):
        self.told(0, 0, 0)
        self.told(0, 1, 1)
        self.told(0, 15, 15)
        self.told(0, HUNDRED, HUNDRED)

    def test_all_small_numbers_by_trial(self):
        for one in range(1, 41):
            for other in range(1, 41):
                answer = max(d for d in range(1, 41) if divides(d, one) and divides(d, other))
                self.told(one, other, answer)

    def test_numbers_of_a_hundred_figures(self):
        self.told(10 ** 99, 2 ** 300, 2 ** 99)
        self.told(HUNDRED, 10 ** 50 - 1, 10 ** 50 - 1)
        self.told(HUNDRED, HUNDRED - 1, 1)
        self.told(3 ** 200, 6 ** 120, 3 ** 120)

    def test_the_longest_way_down(self):
        one, other = 1, 1
        while other < 10 ** 99:
            one, other = other, one + other
        self.told(one, other, 1)
        self.told(one * 7, other * 7, 7)


class LeastRound(unittest.TestCase):
    def told(self, numbers, answer):
        kept = list(numbers)
        got = least_round(numbers)
        self.assertEqual(got, answer, kept)
        self.assertIs(type(got), int)
        self.assertEqual(numbers, kept)

    def test_no_numbers(self):
        self.told([], 1)

    def test_one_number(self):
        self.told([1], 1)
        self.told([17], 17)
        self.told([HUNDRED], HUNDRED)

    def test_like_numbers(self):
        self.told([6, 6], 6)
        self.told([1, 1, 1], 1)
        self.told([4, 6, 4, 6, 12], 12)

    def test_numbers_without_a_common_divisor(self):
        self.told([2, 3, 5, 7], 210)
        self.told([8, 9], 72)

    def test_numbers_with_a_common_divisor(self):
        self.told([4, 6], 12)
        self.told([6, 10, 15], 30)
        self.told([12, 4], 12)
        self.told([4, 12], 12)

    def test_all_small_pairs_by_trial(self):
        for one in range(1, 25):
            for other in range(1, 25):
                answer = 1
                while not (divides(one, answer) and divides(other, answer)):
                    answer += 1
                self.told([one, other], answer)

    def test_numbers_of_a_hundred_figures(self):
        self.told([HUNDRED, HUNDRED], HUNDRED)
        self.told([HUNDRED, HUNDRED - 1], HUNDRED * (HUNDRED - 1))
        self.told([10 ** 99, 2 ** 330], 2 ** 330 * 5 ** 99)

    def test_three_hundred_numbers_of_a_hundred_figures(self):
        numbers = [HUNDRED - k for k in range(300)]
        self.told(numbers, math.lcm(*numbers))

    def test_the_list_stays_as_it_was(self):
        numbers = [12, 8, 8, 30]
        self.assertEqual(least_round(numbers), 120)
        self.assertEqual(numbers, [12, 8, 8, 30])
        self.assertEqual(least_round(numbers), 120)


class LeastPart(unittest.TestCase):
    def told(self, number, answer):
        got = least_part(number)
        self.assertEqual(got, answer, number)
        self.assertIs(type(got), int)

    def test_two(self):
        self.told(2, 2)

    def test_small_numbers_by_trial(self):
        for number in range(2, 5000):
            answer = 2
            while not divides(answer, number):
                answer += 1
            self.told(number, answer)

    def test_squares_of_primes(self):
        for prime in (2, 3, 5, 7, 11, 13, 23, 997, 999983):
            self.told(prime * prime, prime)

    def test_products_of_two_primes_of_six_figures(self):
        self.told(999979 * 999983, 999979)
        self.told(999961 * 999983, 999961)
        self.told(100003 * 999983, 100003)

    def test_primes_of_twelve_figures(self):
        self.told(999999999989, 999999999989)
        self.told(100000000003, 100000000003)

    def test_twelve_figures_with_a_small_part(self):
        self.told(10 ** 12 - 1, 3)
        self.told(10 ** 11, 2)
        self.told(5 * 199999999949, 5)


if __name__ == "__main__":
    unittest.main()

"""Point 6: first hits."""

import sys
import unittest

from shiftmeet import hits
from shiftmeet.hits import first_hit

HUNDRED = 10 ** 100 - 1


def by_trial(start, step, whole, many):
    for i in range(whole):
        if (start + step * i) % whole < many:
            return i
    return None


def floor_sum(n, whole, step, start):
    """The sum of (start + step i) // whole for i from 0 to n - 1."""
    total = 0
    sign = 1
    while n > 0:
        total += sign * ((step // whole) * (n * (n - 1) // 2) + (start // whole) * n)
        step, start = step % whole, start % whole
        top = step * n + start
        if top < whole:
            break
        # Points below the line, counted by rows in the place of columns.
        rows = top // whole
        total += sign * rows * n
        sign = -sign
        n, whole, step, start = rows, step, whole, whole - start + step - 1
    return total


def hits_ahead_of(n, start, step, whole, many):
    """How many i from 0 to n - 1 are hits, told without looking for any."""
    return floor_sum(n, whole, step, start) - floor_sum(n, whole, step, start - many)


def steps_taken(start, step, whole, many):
    """How many lines of the program are walked for an answer."""
    seen = [0]

    def trace(frame, event, arg):
        if frame.f_code.co_filename != hits.__file__:
            return None
        if event == "line":
            seen[0] += 1
        return trace

    before = sys.gettrace()
    sys.settrace(trace)
    try:
        first_hit(start, step, whole, many)
    finally:
        sys.settrace(before)
    return seen[0]


def mixed_numbers(how_many, figures):
    """Unlike numbers of so many figures, the same at each run."""
    numbers = []
    number = 7
    for k in range(how_many):
        number = (number * 6364136223846793005 + 3 ** 230 + k) % 10 ** figures
        numbers.append(number)
    return numbers


class FirstHit(unittest.TestCase):
    def told(self, start, step, whole, many, answer):
        got = first_hit(start, step, whole, many)
        self.assertEqual(got, answer, (start, step, whole, many))
        if got is not None:
            self.assertIs(type(got), int)

    def proved(self, start, step, whole, many):
        case = (start, step, whole, many)
        got = first_hit(start, step, whole, many)
        if got is None:
            self.assertEqual(hits_ahead_of(whole, start, step, whole, many), 0, case)
            return
        self.assertGreaterEqual(got, 0, case)
        self.assertLess((start + step * got) % whole, many, case)
        self.assertEqual(hits_ahead_of(got, start, step, whole, many), 0, case)

    def test_a_start_that_hits(self):
        self.told(0, 5, 7, 1, 0)
        self.told(2, 5, 7, 3, 0)
        self.told(14, 0, 7, 1, 0)
        self.told(-5, 3, 7, 3, 0)

    def test_ordinary_hits(self):
        self.told(3, 1, 10, 1, 7)
        self.told(3, 1, 10, 3, 7)
        self.told(1, 3, 7, 1, 2)
        self.told(5, 4, 10, 2, 4)
        self.told(6, 9, 10, 2, 5)

    def test_a_start_just_below_and_at_many(self):
        self.told(3, 1, 10, 4, 0)
        self.told(4, 1, 10, 4, 6)

    def test_no_hit_with_a_step_that_the_round_divides(self):
        for step in (0, 7, -7, 21, 7 * 10 ** 50):
            self.told(3, step, 7, 3, None)
            self.told(6, step, 7, 6, None)
            self.told(2, step, 7, 3, 0)

    def test_no_hit_elsewhere(self):
        self.told(1, 2, 4, 1, None)
        self.told(2, 6, 9, 2, None)
        self.told(5, 10, 100, 5, None)
        self.told(6, -10, 100, 6, None)

    def test_below_zero_and_far_beyond_the_round(self):
        for start in range(7):
            for step in range(7):
                for many in range(1, 8):
                    answer = by_trial(start, step, 7, many)
                    for far in (-1, 1, -10 ** 30, 10 ** 30):
                        self.told(start + 7 * far, step, 7, many, answer)
                        self.told(start, step + 7 * far, 7, many, answer)
                        self.told(start - 7 * far, step + 14 * far, 7, many, answer)

    def test_a_round_of_one(self):
        for start in (-5, 0, 1, HUNDRED):
            for step in (-3, 0, 4, -HUNDRED):
                self.told(start, step, 1, 1, 0)

    def test_many_as_great_as_the_round(self):
        for whole in (1, 2, 9, HUNDRED):
            for start in (-HUNDRED, -1, 0, 8, whole - 1, whole):
                self.told(start, 4, whole, whole, 0)

    def test_many_one_is_a_division_by_the_step(self):
        whole = 10 ** 99 + 289
        for step in (2, 3 ** 150, whole - 1):
            inverse = pow(step, -1, whole)
            for start in (1, 5 ** 120, -2):
                self.told(start, step, whole, 1, (-start * inverse) % whole)

    def test_small_numbers_by_trial(self):
        for whole in range(1, 15):
            for start in range(-whole - 1, 2 * whole + 2):
                for step in range(-whole - 1, 2 * whole + 2):
                    for many in range(1, whole + 1):
                        self.told(start, step, whole, many, by_trial(start, step, whole, many))

    def test_middling_rounds_by_trial(self):
        for whole in (30, 36, 47, 89):
            for start in range(whole):
                for step in range(whole):
                    for many in (1, 2, 5, whole // 2, whole - 1):
                        self.told(start, step, whole, many, by_trial(start, step, whole, many))

    def test_the_proof_by_counting_is_sound(self):
        for whole in range(1, 9):
            for start in range(-whole, 2 * whole):
                for step in range(-whole, 2 * whole):
                    for many in range(1, whole + 1):
                        for n in (0, 1, 3, whole):
                            seen = len([i for i in range(n) if (start + step * i) % whole < many])
                            self.assertEqual(hits_ahead_of(n, start, step, whole, many), seen)

    def test_a_hundred_figures(self):
        numbers = mixed_numbers(200, 100)
        for k in range(0, 198, 2):
            start, step, whole = numbers[k], numbers[k + 1], numbers[k + 2]
            for many in (1, 2, 10 ** 20, 10 ** 50, 10 ** 90, whole // 3, whole - 1):
                self.proved(start, step, whole, many)
                self.proved(-start, step, whole, many)
                self.proved(start, -step, whole, many)

    def test_a_hundred_figures_with_a_common_divisor(self):
        numbers = mixed_numbers(90, 60)
        for k in range(0, 87, 3):
            common = 10 ** 40
            step, whole = numbers[k] * common, numbers[k + 1] * common
            for many in (1, common // 2, common, common * 1000):
                self.proved(numbers[k + 2], step, whole, many)
                self.proved(common // 2 + numbers[k + 2] * common, step, whole, many)
        self.told(10 ** 39, 3 * 10 ** 40, 7 * 10 ** 40, 10 ** 39, None)

    def test_the_longest_way_down_in_some_hundred_steps(self):
        one, other = 1, 1
        while one + other < 10 ** 100:
            one, other = other, one + other
        for start in (1, one // 2, other // 2, other - 1):
            for step in (one, other - one, -one, 1, other - 1):
                for many in (1, 10 ** 30, 10 ** 98):
                    self.proved(start, step, other, many)
                    self.assertLess(steps_taken(start, step, other, many), 10000)

    def test_long_rows_of_small_steps_are_passed_at_once(self):
        self.told(1, 1, HUNDRED, 1, HUNDRED - 1)
        self.told(1, HUNDRED - 1, HUNDRED, 1, 1)
        self.told(HUNDRED - 1, HUNDRED - 1, HUNDRED, 1, HUNDRED - 1)
        self.told(HUNDRED - 1, -1, HUNDRED, 10 ** 40, HUNDRED - 10 ** 40)
        self.assertLess(steps_taken(HUNDRED - 1, -1, HUNDRED, 1), 10000)


if __name__ == "__main__":
    unittest.main()

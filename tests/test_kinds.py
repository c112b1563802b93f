"""Points 25 to 27: pair plans and grid plans, their waits and papers; and what points 2, 3 and 4 say of them."""

import math
import random
import time
import unittest

from shiftmeet.errors import MeetError, NoPlan, NoPrimes
from shiftmeet.kinds import grid_paper, grid_plan, grid_wait, pair_paper, pair_plan, pair_wait
from shiftmeet.meets import next_together
from shiftmeet.plans import plan_of
from shiftmeet.sure import lets_meet, lonely_shift, paper_wait, worst

HUNDRED = 10 ** 100 - 1
SIXTY = 10 ** 60 - 1
FIFTY = 10 ** 50 - 1
FAR = (-HUNDRED, -SIXTY, SIXTY, HUNDRED)

SMALL_PRIMES = [number for number in range(2, 200) if all(number % part for part in range(2, number))]
SIX_FIGURES = (100003, 100019, 999979, 999983)
TWELVE_FIGURES = (100000000003, 100000000019, 999999999961, 999999999989)

# Pairs of primes with none, one and two in common, with the least product of unlike ones.
PAIRS = (
    ((2, 3), (5, 7), 10),
    ((7, 5), (3, 2), 10),
    ((11, 3), (2, 13), 6),
    ((2, 3), (2, 5), 6),
    ((3, 2), (5, 2), 6),
    ((5, 2), (2, 3), 6),
    ((5, 7), (2, 5), 10),
    ((2, 7), (5, 2), 10),
    ((3, 5), (3, 2), 6),
    ((2, 3), (2, 3), 6),
    ((2, 3), (3, 2), 6),
    ((11, 7), (11, 7), 77),
    ((2, 199), (2, 199), 398),
    ((2, 199), (2, 197), 394),
    ((199, 197), (2, 199), 394),
    ((2, 999999999989), (2, 999999999961), 1999999999922),
    ((999999999961, 2), (999999999989, 2), 1999999999922),
    ((999999999961, 999999999989), (999999999989, 999999999961), 999999999961 * 999999999989),
    ((999999999961, 999999999989), (100000000003, 100000000019), 999999999961 * 100000000003),
    ((999999999961, 100000000003), (100000000019, 100000000003), 100000000003 * 100000000019),
    ((100003, 100019), (999983, 999979), 100003 * 999979),
)

# Two numbers of grids, the greater one last, with the least round of its square and the lesser one.
GRIDS = (
    (1, 1, 1),
    (1, 2, 4),
    (1, 7, 49),
    (2, 2, 4),
    (2, 3, 18),
    (2, 4, 16),
    (2, 5, 50),
    (3, 4, 48),
    (3, 6, 36),
    (4, 6, 36),
    (5, 5, 25),
    (6, 9, 162),
    (6, 10, 300),
    (8, 9, 648),
    (8, 10, 200),
    (8, 12, 144),
    (10 ** 11, 10 ** 12 - 1, 10 ** 11 * (10 ** 12 - 1) ** 2),
    (10 ** 11, 2 * 10 ** 11, 4 * 10 ** 22),
    (6 * 10 ** 11, 9 * 10 ** 11, 81 * 10 ** 22),
    (999999999961, 999999999989, 999999999961 * 999999999989 ** 2),
    (1, FIFTY, FIFTY ** 2),
    (FIFTY, FIFTY, FIFTY ** 2),
    (FIFTY // 9, FIFTY, FIFTY ** 2),
    (FIFTY - 1, FIFTY, (FIFTY - 1) * FIFTY ** 2),
    (14 * 10 ** 48, 6 ** 30 * 10 ** 26, 7 * 6 ** 60 * 10 ** 52),
)


def is_prime_by_trial(number):
    return number in SMALL_PRIMES


def least_product(ones, others):
    return min(one * other for one in ones for other in others if one != other)


class PairPlan(unittest.TestCase):
    def made(self, one, other):
        plan = pair_plan(one, other)
        self.assertEqual(plan, [(one, 0, 1), (other, 0, 1)])
        self.assertIs(type(plan), list)
        for waking in plan:
            self.assertEqual([type(waking)] + [type(number) for number in waking], [tuple, int, int, int])
        self.assertEqual(plan_of(plan), plan)

    def refused(self, one, other):
        with self.assertRaises(MeetError, msg=(one, other)) as caught:
            pair_plan(one, other)
        self.assertIs(type(caught.exception), NoPrimes)

    def test_by_trial_below_two_hundred(self):
        for one in range(-4, 200):
            for other in range(-4, 200):
                if one != other and is_prime_by_trial(one) and is_prime_by_trial(other):
                    self.made(one, other)
                else:
                    self.refused(one, other)

    def test_the_same_one_twice(self):
        for prime in (2, 3, 197) + SIX_FIGURES + TWELVE_FIGURES:
            self.refused(prime, prime)

    def test_numbers_below_two(self):
        for number in (1, 0, -1, -2, -3, -7, -999999999989) + FAR[:2]:
            for prime in (2, 3, 999999999989):
                self.refused(number, prime)
                self.refused(prime, number)
            self.refused(number, number)
            self.refused(number, -number)

    def test_squares_of_primes(self):
        for prime in (2, 3, 5, 7, 11, 13, 31, 211, 997) + SIX_FIGURES:
            for other in (2, prime, 199):
                self.refused(prime * prime, other)
                self.refused(other, prime * prime)

    def test_products_that_have_no_small_part(self):
        for one in SIX_FIGURES:
            for other in SIX_FIGURES:
                self.refused(one * other, 3)
                self.refused(3, one * other)

    def test_twelve_figures_in_good_time(self):
        begin = time.perf_counter()
        for one in TWELVE_FIGURES:
            for other in TWELVE_FIGURES:
                if one != other:
                    self.made(one, other)
            self.made(one, 2)
            self.made(199, one)
            for beside in (-1, 1):
                self.refused(one + beside, 2)
                self.refused(2, one + beside)
        self.refused(999983 * 999979, 999999999989)
        self.refused(999999999989, 999983 * 999979)
        self.refused(999983 * 999983, 999979 * 999979)
        self.assertLess(time.perf_counter() - begin, 30)

    def test_the_told_plan_is_the_askers_own(self):
        plan = pair_plan(2, 3)
        again = pair_plan(2, 3)
        plan.append((1, 0, 1))
        self.assertEqual(again, [(2, 0, 1), (3, 0, 1)])
        self.assertEqual(pair_plan(2, 3), [(2, 0, 1), (3, 0, 1)])


class GridPlan(unittest.TestCase):
    def made(self, number, plan):
        told = grid_plan(number)
        self.assertEqual(told, plan)
        self.assertIs(type(told), list)
        for waking in told:
            self.assertEqual([type(waking)] + [type(part) for part in waking], [tuple, int, int, int])
        self.assertEqual(plan_of(told), plan)

    def test_small_numbers(self):
        self.made(1, [(1, 0, 1), (1, 0, 1)])
        self.made(2, [(2, 0, 1), (4, 0, 2)])
        self.made(3, [(3, 0, 1), (9, 0, 3)])
        self.made(10, [(10, 0, 1), (100, 0, 10)])
        for number in range(1, 200):
            self.made(number, [(number, 0, 1), (number * number, 0, number)])

    def test_great_numbers(self):
        self.made(10 ** 49, [(10 ** 49, 0, 1), (10 ** 98, 0, 10 ** 49)])
        self.made(FIFTY, [(FIFTY, 0, 1), (10 ** 100 - 2 * 10 ** 50 + 1, 0, FIFTY)])

    def test_below_one(self):
        for number in (0, -1, -2, -9, -FIFTY) + FAR[:2]:
            with self.assertRaises(MeetError) as caught:
                grid_plan(number)
            self.assertIs(type(caught.exception), NoPlan)

    def test_the_told_plan_is_the_askers_own(self):
        plan = grid_plan(2)
        again = grid_plan(2)
        plan.clear()
        self.assertEqual(again, [(2, 0, 1), (4, 0, 2)])
        self.assertEqual(grid_plan(2), [(2, 0, 1), (4, 0, 2)])


class Meeting(unittest.TestCase):
    def kept_by(self, one, other, wait, paper):
        """The paper is let by within the wait, and at drawn shifts and turns the wait is kept to."""
        self.assertIs(lets_meet(one, other, paper), True, (one, other, paper))
        self.assertLessEqual(paper_wait(one, other, paper), wait, (one, other, paper))
        drawn = random.Random(27)
        shifts = [0, 1, -1, wait, drawn.randrange(wait), -drawn.randrange(wait), drawn.choice(FAR)]
        turns = [0, 1, -1, drawn.randrange(wait), -drawn.randrange(wait), drawn.choice(FAR)]
        for shift in shifts:
            for turn in turns:
                later = next_together(one, other, shift, turn) - turn
                self.assertTrue(0 <= later < wait, (one, other, shift, turn))

    def pairs(self, ones, others):
        wait = pair_wait(ones, others)
        self.assertIs(type(wait), int)
        self.assertEqual(wait, least_product(ones, others), (ones, others))
        paper = pair_paper(ones, others)
        self.assertIs(type(paper), tuple)
        self.kept_by([(prime, 0, 1) for prime in ones], [(prime, 0, 1) for prime in others], wait, paper)
        return wait

    def grids(self, one, other):
        wait = grid_wait(one, other)
        self.assertIs(type(wait), int)
        self.assertEqual(wait, math.lcm(max(one, other) ** 2, min(one, other)), (one, other))
        paper = grid_paper(one, other)
        self.assertIs(type(paper), tuple)
        plans = [[(number, 0, 1), (number * number, 0, number)] for number in (one, other)]
        self.kept_by(plans[0], plans[1], wait, paper)
        return wait

    def test_pairs(self):
        for ones, others, wait in PAIRS:
            for first in (ones, ones[::-1]):
                for second in (others, others[::-1]):
                    self.assertEqual(self.pairs(first, second), wait)
                    self.assertEqual(self.pairs(second, first), wait)

    def test_all_pairs_of_small_primes(self):
        pairs = [(one, other) for one in (2, 3, 5, 7) for other in (2, 3, 5, 7) if one != other]
        for ones in pairs:
            for others in pairs:
                self.pairs(ones, others)

    def test_grids(self):
        for lesser, greater, wait in GRIDS:
            self.assertEqual(self.grids(lesser, greater), wait)
            self.assertEqual(self.grids(greater, lesser), wait)

    def test_all_grids_of_small_numbers(self):
        for one in range(1, 13):
            for other in range(1, 13):
                self.grids(one, other)

    def test_grids_of_fifty_figures_in_good_time(self):
        drawn = random.Random(50)
        begin = time.perf_counter()
        for part in (1, 7, 10 ** 20, 6 ** 60):
            one = part * drawn.randrange(1, FIFTY // part)
            other = part * drawn.randrange(1, FIFTY // part)
            self.grids(one, other)
            self.grids(other, one)
            self.grids(one, one)
        self.assertLess(time.perf_counter() - begin, 20)

    def test_they_are_sure_by_trial(self):
        for ones, others in (((2, 3), (2, 3)), ((2, 3), (5, 2)), ((2, 3), (5, 7)), ((3, 2), (3, 5))):
            plans = pair_plan(ones[0], ones[1]), pair_plan(others[0], others[1])
            self.assertIsNone(lonely_shift(*plans))
            self.assertLess(worst(*plans)[0], pair_wait(ones, others))
        for one, other in ((1, 1), (1, 5), (2, 3), (3, 3), (4, 2), (4, 6), (6, 3), (8, 8)):
            plans = grid_plan(one), grid_plan(other)
            self.assertIsNone(lonely_shift(*plans))
            self.assertLess(worst(*plans)[0], grid_wait(one, other))


if __name__ == "__main__":
    unittest.main()

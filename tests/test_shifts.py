"""Points 17 and 18: the shifts of two wakings and of two plans; and what point 2 says of them."""

import math
import unittest

from shiftmeet.shifts import pair_of, shifts, shifts_of_two

HUNDRED = 10 ** 100 - 1
SIXTY = 10 ** 60 - 1

TWELVE = [(12 + k, k, 1 + k % 5) for k in range(12)]
DOZEN = [(60 - k, 2 * k, 2 + k % 7) for k in range(12)]


def wakings_up_to(greatest):
    return [(period, first, length) for period in range(1, greatest + 1) for first in range(period)
            for length in range(1, period + 1)]


def is_awake(waking, turn):
    return (turn - waking[1]) % waking[0] < waking[2]


def shifts_by_trial(one, other):
    """All shifts from 0 to below the two periods' round at which some turn of that round is awake by both."""
    whole = math.lcm(one[0], other[0])
    ones = [turn for turn in range(whole) if is_awake(one, turn)]
    others = [is_awake(other, turn) for turn in range(whole)]
    return [shift for shift in range(whole) if any(others[(turn - shift) % whole] for turn in ones)]


class ShiftsOfTwo(unittest.TestCase):
    def told(self, one, other):
        waking = shifts_of_two(one, other)
        self.assertIs(type(waking), tuple)
        self.assertEqual([type(number) for number in waking], [int, int, int])
        period, first, length = waking
        self.assertEqual(period, math.gcd(one[0], other[0]))
        self.assertTrue(0 <= first < period, (one, other, waking))
        self.assertTrue(1 <= length <= period, (one, other, waking))
        return waking

    def test_by_trial(self):
        wakings = wakings_up_to(6)
        for one in wakings:
            for other in wakings:
                waking = self.told(one, other)
                whole = math.lcm(one[0], other[0])
                found = [shift for shift in range(whole) if is_awake(waking, shift)]
                self.assertEqual(found, shifts_by_trial(one, other), (one, other))

    def test_by_trial_where_the_divisor_is_greater(self):
        lengths = (1, 2, 3, 5, 8)
        for periods in ((12, 18), (18, 12), (10, 20), (20, 10), (14, 14), (9, 24)):
            for first in (0, 1, 4, 8):
                for begin in (0, 3, 7):
                    for length in lengths:
                        for many in lengths:
                            one, other = (periods[0], first, length), (periods[1], begin, many)
                            waking = self.told(one, other)
                            found = [shift for shift in range(math.lcm(*periods)) if is_awake(waking, shift)]
                            self.assertEqual(found, shifts_by_trial(one, other), (one, other))

    def test_as_the_document_tells(self):
        self.assertEqual(shifts_of_two((12, 5, 2), (18, 1, 3)), (6, 2, 4))
        self.assertEqual(shifts_of_two((18, 1, 3), (12, 5, 2)), (6, 1, 4))
        self.assertEqual(shifts_of_two((10, 0, 1), (10, 0, 1)), (10, 0, 1))
        self.assertEqual(shifts_of_two((10, 0, 1), (10, 3, 1)), (10, 7, 1))
        self.assertEqual(shifts_of_two((10, 3, 1), (10, 0, 1)), (10, 3, 1))
        self.assertEqual(shifts_of_two((10, 0, 3), (10, 0, 1)), (10, 0, 3))
        self.assertEqual(shifts_of_two((10, 0, 1), (10, 0, 3)), (10, 8, 3))

    def test_the_length_at_the_divisor(self):
        self.assertEqual(shifts_of_two((10, 0, 4), (10, 0, 6)), (10, 5, 9))
        self.assertEqual(shifts_of_two((10, 0, 5), (10, 0, 6)), (10, 5, 10))
        self.assertEqual(shifts_of_two((10, 0, 6), (10, 0, 6)), (10, 5, 10))
        self.assertEqual(shifts_of_two((12, 0, 2), (18, 0, 4)), (6, 3, 5))
        self.assertEqual(shifts_of_two((12, 0, 3), (18, 0, 4)), (6, 3, 6))

    def test_periods_without_a_common_part(self):
        self.assertEqual(shifts_of_two((7, 3, 1), (9, 8, 1)), (1, 0, 1))
        self.assertEqual(shifts_of_two((7, 3, 7), (9, 8, 5)), (1, 0, 1))
        self.assertEqual(shifts_of_two((HUNDRED, HUNDRED - 1, 1), (HUNDRED - 1, 5, 1)), (1, 0, 1))

    def test_wakings_that_are_always_awake(self):
        self.assertEqual(shifts_of_two((1, 0, 1), (1, 0, 1)), (1, 0, 1))
        self.assertEqual(shifts_of_two((1, 0, 1), (8, 3, 2)), (1, 0, 1))
        for one in wakings_up_to(8):
            for always in ((8, 0, 8), (8, 5, 8), (6, 2, 6), (1, 0, 1)):
                for waking in (self.told(one, always), self.told(always, one)):
                    self.assertEqual(waking[2], waking[0])

    def test_turned_about(self):
        for one in wakings_up_to(5):
            for other in wakings_up_to(5):
                waking, about = shifts_of_two(one, other), shifts_of_two(other, one)
                for shift in range(-6, 7):
                    self.assertEqual(is_awake(waking, shift), is_awake(about, -shift))

    def test_great_numbers(self):
        for figures in (60, 100):
            common = 10 ** (figures - 2) + 7
            one = (common * 8, common * 3 + 11, common // 3)
            other = (common * 9, common * 7 + 5, common // 4)
            length = common // 3 + common // 4 - 1
            first = (11 - 5 - common // 4 + 1) % common
            self.assertEqual(self.told(one, other), (common, first, length))
            self.assertEqual(self.told((common * 8, 0, common), (common * 9, 4, 1)), (common, common - 4, common))
            self.assertEqual(self.told((common * 8, 6, 1), (common * 9, 6, 1)), (common, 0, 1))
            self.assertEqual(self.told((common * 8, 6, 1), (common * 9, 7, 1)), (common, common - 1, 1))
            self.assertEqual(self.told((common * 8, 6, 1), (common * 9, 5, 1)), (common, 1, 1))

    def test_a_great_period_beside_a_small_one(self):
        for great in (SIXTY, HUNDRED):
            self.assertEqual(shifts_of_two((great, great - 1, 1), (9, 0, 1)), (9, 8, 1))
            self.assertEqual(shifts_of_two((9, 0, 1), (great, great - 1, 1)), (9, 1, 1))
            self.assertEqual(shifts_of_two((great, great - 1, 2), (great, 0, great // 9)),
                             (great, great - great // 9, great // 9 + 1))
            self.assertEqual(shifts_of_two((great, 7, great), (great, 0, 1)), (great, 7, great))


class Shifts(unittest.TestCase):
    def told(self, one, other):
        kept = (list(one), list(other))
        plan = shifts(one, other)
        self.assertIs(type(plan), list)
        self.assertIsNot(plan, one)
        self.assertIsNot(plan, other)
        self.assertEqual((one, other), kept)
        return plan

    def test_the_order_of_the_pairs(self):
        one = [(12, 0, 1), (18, 1, 2), (20, 2, 3)]
        other = [(24, 3, 2), (30, 5, 4)]
        self.assertEqual(self.told(one, other), [
            (12, 8, 2), (6, 4, 4),
            (6, 3, 3), (6, 5, 5),
            (4, 2, 4), (10, 4, 6),
        ])

    def test_each_of_the_one_ahead_of_each_of_the_other(self):
        for one, other in ((TWELVE, DOZEN), (DOZEN, TWELVE), (TWELVE[:5], DOZEN[:3]), (TWELVE[:1], DOZEN)):
            wanted = [shifts_of_two(waking, beside) for waking in one for beside in other]
            self.assertEqual(self.told(one, other), wanted)

    def test_plans_of_no_wakings(self):
        self.assertEqual(self.told([], []), [])
        self.assertEqual(self.told([], [(3, 0, 1), (4, 1, 1)]), [])
        self.assertEqual(self.told([(3, 0, 1), (4, 1, 1)], []), [])

    def test_plans_of_one_waking(self):
        self.assertEqual(self.told([(12, 5, 2)], [(18, 1, 3)]), [(6, 2, 4)])

    def test_plans_of_twelve_wakings(self):
        plan = self.told(TWELVE, DOZEN)
        self.assertEqual(len(plan), 144)
        self.assertEqual(plan[0], shifts_of_two(TWELVE[0], DOZEN[0]))
        self.assertEqual(plan[11], shifts_of_two(TWELVE[0], DOZEN[11]))
        self.assertEqual(plan[12], shifts_of_two(TWELVE[1], DOZEN[0]))
        self.assertEqual(plan[143], shifts_of_two(TWELVE[11], DOZEN[11]))

    def test_like_wakings(self):
        one, other = [(6, 1, 1), (6, 1, 1)], [(4, 0, 1), (9, 2, 1), (4, 0, 1)]
        self.assertEqual(self.told(one, other), [(2, 1, 1), (3, 2, 1), (2, 1, 1)] * 2)

    def test_one_plan_beside_itself(self):
        plan = [(6, 1, 2), (9, 0, 1)]
        self.assertEqual(self.told(plan, plan), [(6, 5, 3), (3, 1, 2), (3, 1, 2), (9, 0, 1)])

    def test_by_trial(self):
        plans = [[(4, 1, 1), (6, 2, 2)], [(6, 0, 1), (10, 9, 1)], [(5, 2, 3)], [(3, 0, 1), (4, 3, 1), (2, 0, 1)], []]
        for one in plans:
            for other in plans:
                whole = math.lcm(*[waking[0] for waking in one + other])
                plan = self.told(one, other)
                for shift in range(whole):
                    met = any(any(is_awake(waking, turn) for waking in one)
                              and any(is_awake(waking, turn - shift) for waking in other) for turn in range(whole))
                    self.assertEqual(any(is_awake(waking, shift) for waking in plan), met, (one, other, shift))

    def test_great_numbers(self):
        one, other = [(HUNDRED, 5, 1), (HUNDRED - 1, 0, 2)], [(HUNDRED, 0, 2), (SIXTY, 1, 1)]
        self.assertEqual(self.told(one, other), [(HUNDRED, 4, 2), (10 ** 20 - 1, 4, 1), (1, 0, 1), (1, 0, 1)])

    def test_the_told_list_is_the_askers_own(self):
        one, other = [(6, 1, 2), (9, 0, 1)], [(4, 0, 1)]
        plan = shifts(one, other)
        kept = list(plan)
        shifts(one, other).clear()
        self.assertEqual(plan, kept)
        plan.append((1, 0, 1))
        self.assertEqual((one, other), ([(6, 1, 2), (9, 0, 1)], [(4, 0, 1)]))
        self.assertEqual(shifts(one, other), kept)
        plan = shifts(one, other)
        one.pop()
        other.append((5, 0, 5))
        self.assertEqual(plan, kept)

    def test_empty_lists_are_new_ones(self):
        one = []
        plan = shifts(one, one)
        plan.append((1, 0, 1))
        self.assertEqual(one, [])
        self.assertEqual(shifts(one, one), [])


class PairOf(unittest.TestCase):
    def test_names_the_two_wakings_of_that_number(self):
        for one, other in ((TWELVE, DOZEN), (TWELVE[:3], DOZEN[:5]), (TWELVE[:5], DOZEN[:3]), (TWELVE[:1], DOZEN),
                           (TWELVE, DOZEN[:1]), (TWELVE[:1], DOZEN[:1])):
            kept = (list(one), list(other))
            plan = shifts(one, other)
            pairs = []
            for k, waking in enumerate(plan):
                pair = pair_of(one, other, k)
                self.assertIs(type(pair), tuple)
                self.assertEqual([type(number) for number in pair], [int, int])
                self.assertEqual(shifts_of_two(one[pair[0]], other[pair[1]]), waking)
                pairs.append(pair)
            self.assertEqual(pairs, [(i, j) for i in range(len(one)) for j in range(len(other))])
            self.assertEqual((one, other), kept)

    def test_like_wakings_have_numbers_of_their_own(self):
        one, other = [(6, 1, 1), (6, 1, 1)], [(4, 0, 1), (4, 0, 1), (4, 0, 1)]
        self.assertEqual([pair_of(one, other, k) for k in range(6)], [(0, 0), (0, 1), (0, 2), (1, 0), (1, 1), (1, 2)])

    def test_first_and_last(self):
        self.assertEqual(pair_of(TWELVE, DOZEN, 0), (0, 0))
        self.assertEqual(pair_of(TWELVE, DOZEN, 11), (0, 11))
        self.assertEqual(pair_of(TWELVE, DOZEN, 12), (1, 0))
        self.assertEqual(pair_of(TWELVE, DOZEN, 143), (11, 11))


if __name__ == "__main__":
    unittest.main()

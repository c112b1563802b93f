"""Points 7 to 10: plans, awake turns, shifted plans, rounds; and what points 2 and 3 say of them."""

import math
import unittest

from shiftmeet.errors import MeetError, NoPlan, TooMany
from shiftmeet.plans import awake, next_awake, plan_of, plan_round, shifted, times_awake

HUNDRED = 10 ** 100 - 1
SIXTY = 10 ** 60 - 1
FAR = (-HUNDRED, -SIXTY, SIXTY, HUNDRED)

GOOD = (5, 2, 3)
GREAT = [(HUNDRED, HUNDRED - 1, HUNDRED), (SIXTY, 0, 1), (SIXTY - 4, SIXTY // 2, SIXTY // 3), (HUNDRED - 2, 7, 1)]

# What is none, by the number that is wrong: period, first, length.
NO_WAKINGS = (
    (0, 0, 1), (0, 0, 0), (-1, 0, 1), (-5, -2, -3), (-HUNDRED, 0, 1),
    (5, -1, 1), (5, 5, 1), (5, 6, 1), (1, 1, 1), (5, -HUNDRED, 1), (5, HUNDRED, 1), (HUNDRED, HUNDRED, 1),
    (5, 0, 0), (5, 0, -1), (5, 0, 6), (1, 0, 2), (1, 0, 0), (5, 0, -HUNDRED), (5, 0, HUNDRED), (SIXTY, 3, SIXTY + 1),
)


def wakings_of(period):
    return [(period, first, length) for first in range(period) for length in range(1, period + 1)]


def small_wakings(greatest):
    return [waking for period in range(1, greatest + 1) for waking in wakings_of(period)]


def small_plans():
    wakings = small_wakings(4)
    plans = [[]] + [[waking] for waking in small_wakings(6)]
    plans += [[one, other] for one in wakings for other in wakings]
    plans += [[(7, 3, 1), (5, 0, 2), (3, 1, 1)], [(6, 5, 1), (4, 1, 1), (6, 5, 1)], [(11, 10, 1)] * 12]
    return plans


def awake_by_trial(plan, turn):
    """Awake by walking from each waking's first turn, without a rest by the period."""
    for period, first, length in plan:
        begin = first
        while begin > turn:
            begin -= period
        while begin + period <= turn:
            begin += period
        if turn - begin < length:
            return True
    return False


class PlanOf(unittest.TestCase):
    def told(self, rows):
        kept = list(rows)
        plan = plan_of(rows)
        self.assertIs(type(plan), list)
        self.assertEqual(plan, kept)
        self.assertEqual(rows, kept)
        self.assertIsNot(plan, rows)
        for waking in plan:
            self.assertIs(type(waking), tuple)
            self.assertEqual(len(waking), 3)

    def refused(self, rows):
        kept = list(rows)
        with self.assertRaises(NoPlan):
            plan_of(rows)
        with self.assertRaises(MeetError):
            plan_of(rows)
        self.assertEqual(rows, kept)

    def test_ordinary_plans(self):
        self.told([(5, 2, 3)])
        self.told([(2, 0, 1), (3, 0, 1), (4, 1, 1), (6, 5, 1), (12, 7, 1)])
        self.told([(9, 8, 9), (4, 0, 4)])

    def test_no_wakings(self):
        self.told([])

    def test_the_edges_of_a_waking(self):
        for row in ((1, 0, 1), (5, 0, 1), (5, 4, 1), (5, 0, 5), (5, 4, 5)):
            self.told([row])

    def test_like_wakings_stay(self):
        self.told([(5, 2, 3), (5, 2, 3)])
        self.told([(4, 1, 1), (5, 2, 3), (4, 1, 1), (4, 1, 1)])

    def test_sixty_and_a_hundred_figures(self):
        self.told([(SIXTY, SIXTY - 1, SIXTY)])
        self.told([(HUNDRED, 0, 1), (HUNDRED, HUNDRED - 1, HUNDRED)])
        self.told(GREAT)

    def test_twelve_wakings_and_more(self):
        self.told([(12, k, 1) for k in range(12)])
        self.told([(144, k, 1) for k in range(144)])

    def test_just_the_small_wakings_are_taken(self):
        for period in range(-2, 5):
            for first in range(-2, 6):
                for length in range(-2, 6):
                    if (period, first, length) in small_wakings(4):
                        self.told([(period, first, length)])
                    else:
                        self.refused([(period, first, length)])

    def test_no_waking_at_each_place(self):
        for bad in NO_WAKINGS:
            with self.subTest(bad=bad):
                self.refused([bad])
                self.refused([bad, GOOD, GOOD])
                self.refused([GOOD, bad, GOOD])
                self.refused([GOOD, GOOD, bad])
                self.refused([GOOD] * 11 + [bad])
                self.refused([bad, bad])

    def test_the_told_list_is_the_askers_own(self):
        rows = [(5, 2, 3), (4, 1, 1)]
        plan = plan_of(rows)
        rows.append((3, 0, 1))
        rows[0] = (9, 9, 9)
        self.assertEqual(plan, [(5, 2, 3), (4, 1, 1)])
        again = plan_of(plan)
        plan.clear()
        self.assertEqual(again, [(5, 2, 3), (4, 1, 1)])
        self.assertEqual(rows, [(9, 9, 9), (4, 1, 1), (3, 0, 1)])

    def test_the_told_list_of_no_wakings_is_a_new_one_each_time(self):
        plan_of([]).append((1, 0, 1))
        self.assertEqual(plan_of([]), [])


class Awake(unittest.TestCase):
    def told(self, plan, turn, answer):
        kept = list(plan)
        self.assertIs(awake(plan, turn), answer, (plan, turn))
        self.assertEqual(plan, kept)

    def test_around_begin_and_end(self):
        for far in (0, 1, -1, -3, 10 ** 20) + FAR:
            begin = 2 + 7 * far
            self.told([(7, 2, 3)], begin - 1, False)
            self.told([(7, 2, 3)], begin, True)
            self.told([(7, 2, 3)], begin + 2, True)
            self.told([(7, 2, 3)], begin + 3, False)

    def test_a_waking_over_the_end_of_its_period(self):
        for turn, answer in ((4, False), (5, True), (6, True), (7, True), (8, False), (0, True), (1, False), (-1, True)):
            self.told([(7, 5, 3)], turn, answer)

    def test_a_waking_that_is_always_awake(self):
        for waking in ((1, 0, 1), (5, 3, 5), (HUNDRED, 8, HUNDRED)):
            for turn in (-1, 0, 1, 2, 3, 4) + FAR:
                self.told([waking], turn, True)
                self.told([(HUNDRED, 0, 1), waking], turn, True)

    def test_no_wakings(self):
        for turn in (-1, 0, 1) + FAR:
            self.told([], turn, False)

    def test_one_of_the_wakings_is_enough(self):
        plan = [(6, 0, 1), (4, 3, 1)]
        self.assertEqual([t for t in range(-12, 12) if awake(plan, t)], [-12, -9, -6, -5, -1, 0, 3, 6, 7, 11])

    def test_a_hundred_figures(self):
        plan = [(HUNDRED, HUNDRED - 1, 3)]
        for turn, answer in ((-2, False), (-1, True), (0, True), (1, True), (2, False), (HUNDRED - 2, False),
                             (HUNDRED - 1, True), (HUNDRED, True), (-HUNDRED - 1, True), (-HUNDRED + 2, False)):
            self.told(plan, turn, answer)

    def test_by_trial(self):
        for plan in small_plans():
            for turn in range(-14, 15):
                self.told(plan, turn, awake_by_trial(plan, turn))


class NextAwake(unittest.TestCase):
    def told(self, plan, turn, answer):
        kept = list(plan)
        got = next_awake(plan, turn)
        self.assertEqual(got, answer, (plan, turn))
        if got is not None:
            self.assertIs(type(got), int)
        self.assertEqual(plan, kept)

    def test_around_begin_and_end(self):
        for far in (0, 1, -1, -3, 10 ** 20) + FAR:
            begin = 2 + 7 * far
            self.told([(7, 2, 3)], begin - 1, begin)
            self.told([(7, 2, 3)], begin, begin)
            self.told([(7, 2, 3)], begin + 2, begin + 2)
            self.told([(7, 2, 3)], begin + 3, begin + 7)

    def test_no_wakings(self):
        for turn in (-1, 0, 1) + FAR:
            self.told([], turn, None)

    def test_a_waking_that_is_always_awake(self):
        for turn in (-1, 0, 1) + FAR:
            self.told([(1, 0, 1)], turn, turn)
            self.told([(9, 4, 9)], turn, turn)
            self.told([(HUNDRED, 0, 1), (SIXTY, 5, SIXTY)], turn, turn)

    def test_the_earlier_one_of_several(self):
        self.told([(10, 9, 1), (10, 4, 1)], 0, 4)
        self.told([(10, 4, 1), (10, 9, 1)], 0, 4)
        self.told([(10, 4, 1), (10, 9, 1)], 5, 9)
        self.told([(10, 4, 1), (10, 9, 1)], 10, 14)
        self.told([(10, 4, 1), (3, 0, 2)], 4, 4)

    def test_a_hundred_figures(self):
        first = HUNDRED // 3
        for far in (-1, 0, 1) + FAR:
            begin = first + far * HUNDRED
            for length in (1, 2, SIXTY, HUNDRED - 1):
                plan = [(HUNDRED, first, length)]
                self.told(plan, begin - 1, begin)
                self.told(plan, begin, begin)
                self.told(plan, begin + length - 1, begin + length - 1)
                self.told(plan, begin + length, begin + HUNDRED)
                plan.append((HUNDRED, (first + length) % HUNDRED, 1))
                self.told(plan, begin + length, begin + length)

    def test_twelve_wakings_of_great_periods(self):
        plan = [(HUNDRED - k, 100 + k, 1) for k in range(12)]
        self.told(plan, 0, 100)
        self.told(plan, 101, 101)
        self.told(plan, 111, 111)
        # All begin again in one turn, 100 + HUNDRED; behind it the one with the shortest period is ahead.
        self.told(plan, 112, 100 + HUNDRED)
        self.told(plan, 101 + HUNDRED, 111 + 2 * (HUNDRED - 11))

    def test_the_least_one_by_trial(self):
        for plan in small_plans():
            for turn in range(-13, 14):
                answer = None
                if plan:
                    answer = turn
                    while not awake_by_trial(plan, answer):
                        answer += 1
                self.told(plan, turn, answer)


class Shifted(unittest.TestCase):
    def told(self, plan, by, answer):
        kept = list(plan)
        got = shifted(plan, by)
        self.assertIs(type(got), list)
        self.assertEqual(got, answer, (kept, by))
        self.assertEqual(plan, kept)
        self.assertIsNot(got, plan)
        self.assertEqual(plan_of(got), got)

    def test_ordinary_shifts(self):
        self.told([(7, 2, 3)], 0, [(7, 2, 3)])
        self.told([(7, 2, 3)], 4, [(7, 6, 3)])
        self.told([(7, 2, 3)], 5, [(7, 0, 3)])
        self.told([(7, 2, 3)], 14, [(7, 2, 3)])
        self.told([(7, 2, 3)], -2, [(7, 0, 3)])
        self.told([(7, 2, 3)], -3, [(7, 6, 3)])

    def test_each_waking_in_its_place(self):
        self.told([(7, 2, 3), (4, 3, 1), (7, 2, 3), (1, 0, 1)], 6, [(7, 1, 3), (4, 1, 1), (7, 1, 3), (1, 0, 1)])
        self.told([(12, 0, 5), (3, 0, 1)], -1, [(12, 11, 5), (3, 2, 1)])

    def test_no_wakings(self):
        for by in (-1, 0, 1) + FAR:
            self.told([], by, [])

    def test_great_numbers(self):
        self.told([(7, 2, 3)], 7 * SIXTY, [(7, 2, 3)])
        self.told([(7, 2, 3)], -7 * SIXTY - 1, [(7, 1, 3)])
        self.told([(HUNDRED, HUNDRED - 1, 4)], HUNDRED, [(HUNDRED, HUNDRED - 1, 4)])
        self.told([(HUNDRED, HUNDRED - 1, 4)], 1, [(HUNDRED, 0, 4)])
        self.told([(HUNDRED, 0, 4)], -HUNDRED - 1, [(HUNDRED, HUNDRED - 1, 4)])
        self.told([(SIXTY, 1, SIXTY)], HUNDRED, [(SIXTY, (HUNDRED + 1) % SIXTY, SIXTY)])

    def test_agrees_with_awake_ahead_of_the_shift(self):
        for plan in small_plans():
            for by in (-SIXTY, -9, -1, 0, 1, 2, 3, 8, HUNDRED):
                later = shifted(plan, by)
                for turn in range(-7, 8):
                    self.assertIs(awake(later, turn), awake(plan, turn - by), (plan, by, turn))

    def test_agrees_with_awake_for_great_numbers(self):
        for by in (-1, 1, 12345) + FAR:
            later = shifted(GREAT[1:], by)
            for near in (0, SIXTY, 7 + HUNDRED, SIXTY // 2, SIXTY // 2 + SIXTY // 3) + FAR:
                for turn in range(near - 2, near + 3):
                    self.assertIs(awake(later, turn), awake(GREAT[1:], turn - by))
                    self.assertEqual(next_awake(later, turn), next_awake(GREAT[1:], turn - by) + by)

    def test_the_told_list_is_the_askers_own(self):
        plan = [(7, 2, 3), (4, 3, 1)]
        for by in (0, 28, 1):
            later = shifted(plan, by)
            later.append((1, 0, 1))
            later[0] = (2, 0, 1)
            self.assertEqual(plan, [(7, 2, 3), (4, 3, 1)])
            self.assertEqual(shifted(plan, by), [(7, (2 + by) % 7, 3), (4, (3 + by) % 4, 1)])
        later = shifted(plan, 0)
        plan.clear()
        self.assertEqual(later, [(7, 2, 3), (4, 3, 1)])


class PlanRound(unittest.TestCase):
    def told(self, plan, answer):
        kept = list(plan)
        got = plan_round(plan)
        self.assertEqual(got, answer)
        self.assertIs(type(got), int)
        self.assertEqual(plan, kept)

    def test_ordinary_plans(self):
        self.told([(5, 2, 3)], 5)
        self.told([(4, 0, 1), (6, 5, 6)], 12)
        self.told([(6, 0, 1), (6, 0, 1), (3, 1, 1)], 6)
        self.told([(6, 1, 2), (10, 1, 3), (15, 1, 4)], 30)

    def test_no_wakings(self):
        self.told([], 1)

    def test_a_waking_that_is_always_awake_counts(self):
        self.told([(8, 3, 8)], 8)
        self.told([(8, 3, 8), (9, 0, 9)], 72)

    def test_great_numbers(self):
        self.told([(HUNDRED, 0, 1)], HUNDRED)
        self.told([(HUNDRED, 0, 1), (HUNDRED - 1, 0, 1)], HUNDRED * (HUNDRED - 1))
        self.told(GREAT, math.lcm(HUNDRED, SIXTY, SIXTY - 4, HUNDRED - 2))

    def test_the_plan_comes_again_after_it(self):
        for plan in small_plans():
            whole = plan_round(plan)
            self.assertEqual(whole, math.lcm(*[waking[0] for waking in plan]))
            for turn in range(-6, 7):
                self.assertIs(awake(plan, turn), awake(plan, turn + whole))


class TimesAwake(unittest.TestCase):
    def told(self, plan, begin, end, answer):
        kept = list(plan)
        got = times_awake(plan, begin, end)
        self.assertEqual(got, answer, (plan, begin, end))
        self.assertIs(type(got), int)
        self.assertEqual(plan, kept)

    def refused(self, plan, begin, end):
        kept = list(plan)
        with self.assertRaises(TooMany):
            times_awake(plan, begin, end)
        self.assertEqual(plan, kept)

    def test_ordinary_turns(self):
        self.told([(7, 2, 3)], 0, 7, 3)
        self.told([(7, 2, 3)], 2, 3, 1)
        self.told([(7, 2, 3)], 1, 2, 0)
        self.told([(7, 2, 3)], 4, 5, 1)
        self.told([(7, 2, 3)], 5, 6, 0)
        self.told([(7, 2, 3)], -70, 70, 60)

    def test_a_turn_counts_once(self):
        self.told([(7, 2, 3), (7, 2, 3)], 0, 7, 3)
        self.told([(2, 0, 1), (3, 0, 1)], 0, 6, 4)
        self.told([(1, 0, 1), (1, 0, 1), (4, 2, 2)], -3, 5, 8)

    def test_no_turns(self):
        for turn in (-1, 0, 1, 2) + FAR:
            self.told([(1, 0, 1)], turn, turn, 0)
            self.told([], turn, turn, 0)

    def test_no_wakings(self):
        self.told([], 0, 5000, 0)
        self.told([], -HUNDRED, -HUNDRED + 12, 0)

    def test_just_five_thousand_turns(self):
        for begin in (-2500, 0, 1) + FAR:
            self.told([(1, 0, 1)], begin, begin + 5000, 5000)
            self.told([(5000, 17, 1)], begin, begin + 5000, 1)
            self.told([(8, 1, 3), (8, 4, 2)], begin, begin + 5000, 3125)

    def test_too_many_turns(self):
        for begin in (-2500, 0, 1) + FAR:
            for plan in ([(1, 0, 1)], [(5000, 17, 1)], []):
                self.refused(plan, begin, begin + 5001)
        self.refused([(HUNDRED, 0, 1)], -HUNDRED, HUNDRED)
        self.refused([(3, 0, 1)], 0, HUNDRED)

    def test_great_numbers(self):
        self.told([(HUNDRED, HUNDRED - 2, 4)], -2, 2, 4)
        self.told([(HUNDRED, HUNDRED - 2, 4)], HUNDRED - 50, HUNDRED + 50, 4)
        self.told([(HUNDRED, HUNDRED - 2, 4), (HUNDRED, 1, 3)], -HUNDRED - 50, -HUNDRED + 50, 6)

    def test_by_trial(self):
        for plan in small_plans():
            for begin in (-13, -1, 0, 5):
                for many in (0, 1, 2, 7, 12):
                    answer = sum(awake_by_trial(plan, turn) for turn in range(begin, begin + many))
                    self.told(plan, begin, begin + many, answer)


if __name__ == "__main__":
    unittest.main()

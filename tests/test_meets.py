"""Points 16 and 19: turns in which two plans are awake together; and what points 2 and 4 say of them."""

import math
import random
import time
import unittest

from shiftmeet.meets import next_together, together
from shiftmeet.plans import awake, shifted
from shiftmeet.shifts import shifts

HUNDRED = 10 ** 100 - 1
SIXTY = 10 ** 60 - 1
FAR = (-HUNDRED, -SIXTY, SIXTY, HUNDRED)

PLANS = (
    [],
    [(1, 0, 1)],
    [(5, 2, 1)],
    [(6, 4, 3)],
    [(4, 1, 1), (6, 2, 2)],
    [(6, 0, 1), (10, 9, 1)],
    [(3, 0, 1), (4, 3, 1), (12, 7, 2)],
    [(10, 0, 1), (10, 0, 1), (15, 14, 1)],
)
GREAT_PLANS = (
    [(HUNDRED, HUNDRED - 1, HUNDRED // 2), (SIXTY, 5, SIXTY // 7)],
    [(SIXTY - 2, 0, SIXTY // 3)],
    [(HUNDRED - 2, 17, HUNDRED // 9), (7, 3, 2)],
)


def wakings_up_to(greatest):
    return [(period, first, length) for period in range(1, greatest + 1) for first in range(period)
            for length in range(1, period + 1)]


def is_awake(plan, turn):
    return any((turn - first) % period < length for period, first, length in plan)


def by_trial(one, other, shift, turn):
    """The least turn together, looked for over a whole round of both."""
    whole = math.lcm(*[waking[0] for waking in one + other])
    for later in range(turn, turn + whole):
        if is_awake(one, later) and is_awake(other, later - shift):
            return later
    return None


def stretched(plan, many):
    """The plan in which each turn of the told one lasts so many turns."""
    return [(period * many, first * many, length * many) for period, first, length in plan]


def by_stretched_trial(one, other, many, shift, turn):
    """The least turn together of two stretched plans, looked for by the turns of the plans themselves."""
    whole = math.lcm(*[waking[0] for waking in one + other])
    back, rest = divmod(shift, many)
    for old in range(turn // many, turn // many + whole + 1):
        # The other's old turn ends so many turns behind the one's as the rest is.
        begin, middle, end = old * many, old * many + rest, (old + 1) * many
        for begin, end, apart in ((begin, middle, back + 1), (middle, end, back)):
            if max(begin, turn) < end and is_awake(one, old) and is_awake(other, old - apart):
                return max(begin, turn)
    return None


def drawn_plan(draw, figures, wakings):
    plan = []
    for k in range(wakings):
        period = draw.randrange(10 ** (figures - 1), 10 ** figures)
        longest = max(1, period // draw.choice((3, 10, 10 ** 9)))
        plan.append((period, draw.randrange(period), draw.randrange(1, longest + 1)))
    return plan


class Together(unittest.TestCase):
    def told(self, one, other, shift, turn):
        kept = (list(one), list(other))
        got = together(one, other, shift, turn)
        self.assertIs(type(got), bool)
        self.assertEqual((one, other), kept)
        return got

    def test_one_turn(self):
        one, other = [(10, 3, 1)], [(10, 5, 1)]
        self.assertIs(self.told(one, other, -2, 3), True)
        self.assertIs(self.told(one, other, 8, 3), True)
        self.assertIs(self.told(one, other, 2, 3), False)
        self.assertIs(self.told(one, other, -2, 5), False)
        self.assertIs(self.told(one, other, 0, 3), False)
        self.assertIs(self.told(one, other, -2, 13), True)
        self.assertIs(self.told(one, other, -2, -7), True)

    def test_only_one_of_both_is_awake(self):
        self.assertIs(self.told([(10, 3, 1)], [(10, 4, 1)], 0, 3), False)
        self.assertIs(self.told([(10, 3, 1)], [(10, 4, 1)], 0, 4), False)
        self.assertIs(self.told([(10, 3, 1)], [(1, 0, 1)], 0, 3), True)
        self.assertIs(self.told([(10, 3, 1)], [(1, 0, 1)], 0, 4), False)
        self.assertIs(self.told([(1, 0, 1)], [(10, 3, 1)], 2, 5), True)
        self.assertIs(self.told([(1, 0, 1)], [(10, 3, 1)], 2, 3), False)

    def test_by_the_two_sentences(self):
        for one in PLANS:
            for other in PLANS:
                for shift in (-31, -3, -1, 0, 1, 2, 17) + FAR:
                    for turn in list(range(-8, 9)) + list(FAR):
                        wanted = awake(one, turn) and awake(shifted(other, shift), turn)
                        self.assertIs(self.told(one, other, shift, turn), wanted)
                        self.assertIs(wanted, is_awake(one, turn) and is_awake(other, turn - shift))

    def test_great_plans(self):
        met = []
        for one in GREAT_PLANS:
            for other in GREAT_PLANS:
                for shift in FAR + (0, -1, SIXTY // 2, -HUNDRED // 3):
                    for turn in FAR + (0, -1, HUNDRED // 4, -SIXTY // 5):
                        wanted = awake(one, turn) and awake(shifted(other, shift), turn)
                        met.append(self.told(one, other, shift, turn))
                        self.assertIs(met[-1], wanted)
        self.assertEqual(sorted(set(met)), [False, True])

    def test_plans_of_no_wakings(self):
        for turn in (-5, 0, 3) + FAR:
            self.assertIs(self.told([], [], 0, turn), False)
            self.assertIs(self.told([], [(1, 0, 1)], 2, turn), False)
            self.assertIs(self.told([(1, 0, 1)], [], -2, turn), False)


class NextTogether(unittest.TestCase):
    def told(self, one, other, shift, turn):
        kept = (list(one), list(other))
        got = next_together(one, other, shift, turn)
        self.assertEqual((one, other), kept)
        if got is not None:
            self.assertIs(type(got), int)
            self.assertGreaterEqual(got, turn)
            self.assertTrue(is_awake(one, got) and is_awake(other, got - shift))
        return got

    def least(self, one, other, shift, turn):
        self.assertEqual(self.told(one, other, shift, turn), by_trial(one, other, shift, turn),
                         (one, other, shift, turn))

    def test_two_wakings_by_trial(self):
        wakings = wakings_up_to(4) + [(6, 1, 1), (6, 4, 3), (5, 3, 1), (5, 4, 2)]
        for one in wakings:
            for other in wakings:
                for shift in (-7, -1, 0, 1, 2, 3, 4):
                    for turn in (-5, 0, 1, 3):
                        self.least([one], [other], shift, turn)

    def test_plans_by_trial(self):
        for one in PLANS:
            for other in PLANS:
                for shift in range(-7, 8):
                    for turn in (-61, -9, -2, -1, 0, 1, 2, 4, 7, 30, 59):
                        self.least(one, other, shift, turn)

    def test_all_shifts_and_turns_of_a_round(self):
        one, other = [(6, 4, 2), (9, 1, 1)], [(4, 3, 1), (9, 2, 2)]
        for shift in range(-36, 37):
            for turn in range(-36, 37):
                self.least(one, other, shift, turn)

    def test_none_just_where_the_shift_is_none_of_the_shifts(self):
        nones = 0
        for one in PLANS:
            for other in PLANS:
                plan = shifts(one, other)
                for shift in list(range(-15, 16)) + list(FAR):
                    for turn in (-3, 0, 8, HUNDRED):
                        lonely = self.told(one, other, shift, turn) is None
                        self.assertIs(lonely, not awake(plan, shift))
                        nones += lonely
        self.assertGreater(nones, 1000)

    def test_none_at_the_edges_of_great_shifts(self):
        for figures in (60, 100):
            common = 10 ** (figures - 2) + 7
            one = [(common * 8, common * 3 + 11, common // 3)]
            other = [(common * 9, common * 7 + 5, common // 4)]
            first = 6 - common // 4 + 1
            last = 6 + common // 3 - 1
            for rounds in (-5, 0, 3):
                for turn in FAR + (0, 77):
                    for shift, met in ((first - 1, False), (first, True), (last, True), (last + 1, False)):
                        got = self.told(one, other, shift + rounds * common, turn)
                        self.assertIs(got is not None, met)
                        if met:
                            self.assertLess(got - turn, common * 72)

    def test_the_turn_itself(self):
        self.assertEqual(self.told([(10, 3, 4)], [(8, 0, 8)], 5, 4), 4)
        self.assertEqual(self.told([(10, 3, 4)], [(8, 0, 8)], 5, 3), 3)
        self.assertEqual(self.told([(10, 3, 4)], [(8, 0, 8)], 5, 6), 6)
        self.assertEqual(self.told([(10, 3, 4)], [(8, 0, 8)], 5, 7), 13)
        self.assertEqual(self.told([(1, 0, 1)], [(1, 0, 1)], -4, -9), -9)
        for turn in FAR:
            self.assertEqual(self.told([(HUNDRED, 0, HUNDRED)], [(7, turn % 7, 1)], 0, turn), turn)
            self.assertEqual(self.told([(HUNDRED, turn % HUNDRED, 1)], [(SIXTY, 0, SIXTY)], turn, turn), turn)

    def test_the_turn_itself_by_other_wakings_than_are_next(self):
        one, other = [(20, 0, 1), (20, 9, 3)], [(20, 0, 1), (20, 8, 3)]
        self.assertEqual(self.told(one, other, 0, 10), 10)
        self.assertEqual(self.told(one, other, 0, 11), 20)
        self.assertEqual(self.told(one, other, 0, 8), 9)

    def test_a_waking_of_the_one_begins(self):
        self.assertEqual(self.told([(20, 7, 2)], [(20, 5, 9)], 0, 0), 7)
        self.assertEqual(self.told([(20, 7, 2)], [(20, 5, 9)], 0, 6), 7)
        self.assertEqual(self.told([(20, 7, 2)], [(1, 0, 1)], 3, 9), 27)

    def test_a_waking_of_the_other_begins(self):
        self.assertEqual(self.told([(20, 5, 9)], [(20, 7, 2)], 0, 0), 7)
        self.assertEqual(self.told([(20, 5, 9)], [(20, 7, 2)], 4, 6), 11)
        self.assertEqual(self.told([(1, 0, 1)], [(20, 7, 2)], 3, 12), 30)

    def test_both_begin(self):
        self.assertEqual(self.told([(4, 3, 1)], [(6, 1, 1)], 0, 0), 7)
        self.assertEqual(self.told([(4, 3, 1)], [(6, 1, 1)], 0, 8), 19)
        self.assertEqual(self.told([(4, 3, 1)], [(6, 1, 1)], 0, -4), 7)
        self.assertEqual(self.told([(4, 3, 1)], [(6, 1, 1)], 0, -5), -5)
        self.assertIsNone(self.told([(4, 3, 1)], [(6, 1, 1)], 1, 0))

    def test_great_periods_that_meet_once(self):
        for figures in (60, 100):
            period, beside = 10 ** (figures - 1) + 1, 10 ** (figures - 1) + 2
            whole = period * beside
            for met in (0, 1, 12345, whole // 2, whole // 3 + 7, whole - 1):
                one, other = [(period, met % period, 1)], [(beside, met % beside, 1)]
                self.assertEqual(self.told(one, other, 0, 0), met)
                self.assertEqual(self.told(one, other, 0, met), met)
                self.assertEqual(self.told(one, other, 0, met + 1), met + whole)
                self.assertEqual(self.told(one, other, 0, met - whole + 1), met)
                self.assertEqual(self.told(one, other, 0, -whole), met - whole)
                for shift in FAR:
                    later = [(beside, (met - shift) % beside, 1)]
                    self.assertEqual(self.told(one, later, shift, 0), met)

    def test_great_and_small(self):
        for great in (SIXTY - 1, HUNDRED):
            self.assertNotEqual(great % 7, 0)
            one, other = [(great, great - 1, 1)], [(7, 0, 1)]
            for turn in (0, -great, great, 5 * great):
                # One of any seven beginnings one behind the other is a multiple of seven.
                begin = turn + (great - 1 - turn) % great
                wanted = [begin + great * k for k in range(7) if (begin + great * k) % 7 == 0]
                self.assertEqual([self.told(one, other, 0, turn)], wanted)
                self.assertEqual([self.told(other, one, 0, turn)], wanted)
        self.assertEqual(SIXTY % 7, 0)
        self.assertIsNone(self.told([(SIXTY, SIXTY - 1, 1)], [(7, 0, 1)], 0, 0))
        self.assertEqual(self.told([(SIXTY, SIXTY - 1, 1)], [(7, 0, 1)], -1, 0), SIXTY - 1)

    def test_turned_about_with_the_shift_below_nought(self):
        cases = [(one, other, shift, turn) for one in PLANS for other in PLANS for shift in (-9, -1, 0, 2, 5)
                 for turn in (-8, 0, 3, 12)]
        cases += [(one, other, shift, turn) for one in GREAT_PLANS for other in GREAT_PLANS for shift in FAR
                  for turn in FAR]
        for one, other, shift, turn in cases:
            straight = self.told(one, other, shift, turn)
            about = self.told(other, one, -shift, turn - shift)
            if straight is None:
                self.assertIsNone(about)
            else:
                self.assertEqual(about, straight - shift)

    def test_stretched_plans_of_sixty_and_a_hundred_figures(self):
        nones = 0
        for many in (3, 10 ** 58 + 1, 10 ** 98 + 3):
            for one in PLANS:
                for other in PLANS:
                    for old, rest in ((0, 0), (-3, 1), (5, many // 2), (1, many - 1), (-2, 0)):
                        for begin, later in ((0, 0), (-7, many // 3), (4, many - 1), (11, 1)):
                            shift, turn = old * many + rest, begin * many + later
                            wanted = by_stretched_trial(one, other, many, shift, turn)
                            got = self.told(stretched(one, many), stretched(other, many), shift, turn)
                            self.assertEqual(got, wanted, (one, other, many, shift, turn))
                            nones += got is None
        self.assertGreater(nones, 300)

    def test_no_earlier_one_by_asking_again(self):
        draw = random.Random(5)
        for figures in (60, 100):
            for k in range(12):
                one, other = drawn_plan(draw, figures, 3), drawn_plan(draw, figures, 3)
                shift, turn = draw.choice(FAR), draw.choice(FAR)
                found = self.told(one, other, shift, turn)
                if found is None:
                    continue
                # From any turn between on it is the same one, and from the turn behind it a later one.
                for between in (found, (turn + found) // 2, max(turn, found - 1)):
                    self.assertEqual(self.told(one, other, shift, between), found)
                self.assertGreater(self.told(one, other, shift, found + 1), found)

    def test_the_least_of_all_pairs(self):
        draw = random.Random(6)
        for figures in (2, 60, 100):
            for k in range(20):
                one, other = drawn_plan(draw, figures, 3), drawn_plan(draw, figures, 2)
                shift, turn = draw.choice(FAR + (0, -7)), draw.choice(FAR + (0, -7))
                alone = [self.told([waking], [beside], shift, turn) for waking in one for beside in other]
                wanted = min([found for found in alone if found is not None], default=None)
                self.assertEqual(self.told(one, other, shift, turn), wanted)

    def test_in_good_time(self):
        draw = random.Random(7)
        one, other = drawn_plan(draw, 100, 12), drawn_plan(draw, 100, 12)
        one = [(period, first, 1) for period, first, length in one]
        other = [(period, first, 1) for period, first, length in other]
        begin = time.perf_counter()
        self.told(one, other, -HUNDRED // 7, HUNDRED // 3)
        self.assertLess(time.perf_counter() - begin, 5)

    def test_plans_of_no_wakings(self):
        for turn in (-5, 0, 3) + FAR:
            self.assertIsNone(self.told([], [], 0, turn))
            self.assertIsNone(self.told([], [(1, 0, 1)], 2, turn))
            self.assertIsNone(self.told([(1, 0, 1)], [], -2, turn))


if __name__ == "__main__":
    unittest.main()

"""Points 12 and 14: holes and papers of plans that cover; and what points 2, 3 and 4 say of them."""

import copy
import unittest

from shiftmeet.covers import cover_paper, hole
from shiftmeet.errors import MeetError, TooMany
from shiftmeet.papers import lets_by, paper_knots
from shiftmeet.plans import awake, shifted

HUNDRED = 10 ** 100 - 1

COVERS = (
    [(1, 0, 1)],
    [(7, 4, 7)],
    [(2, 0, 1), (2, 1, 1)],
    [(2, 1, 1), (2, 1, 1), (2, 0, 1), (2, 0, 1)],
    [(4, 1, 3), (2, 0, 1)],
    [(6, 5, 4), (6, 2, 4)],
    [(9, 0, 1), (9, 1, 8), (2, 0, 1)],
    [(2, 0, 1), (3, 0, 1), (4, 1, 1), (6, 5, 1), (12, 7, 1)],
    [(12, 7, 1), (6, 5, 1), (4, 1, 1), (3, 0, 1), (2, 0, 1)],
    [(2, 0, 1), (3, 0, 1), (4, 1, 1), (8, 3, 1), (12, 7, 1), (24, 23, 1)],
    [(12, k, 1) for k in range(12)],
)

HOLES = (
    ([], 0),
    ([(2, 0, 1)], 1),
    ([(2, 1, 1)], 0),
    ([(5, 0, 4)], 4),
    ([(5, 2, 4)], 1),
    ([(2, 0, 1), (3, 0, 1)], 1),
    ([(2, 1, 1), (3, 0, 1)], 2),
    ([(2, 0, 1), (3, 0, 1), (4, 1, 1), (6, 5, 1)], 7),
    ([(2, 0, 1), (3, 0, 1), (4, 1, 1), (6, 5, 1), (12, 8, 1)], 7),
    ([(12, k, 1) for k in range(11)], 11),
    ([(6, 0, 3), (6, 0, 3), (4, 3, 1)], 4),
)

# Plans of a round of just five thousand: a hole at the end, and none.
LONGEST_HOLES = (
    ([(5000, 0, 4999)], 4999),
    ([(5000, 0, 1)], 1),
    ([(8, 0, 7), (625, 0, 624)], 4999),
    ([(2, 0, 1), (625, 0, 624), (8, 3, 5)], 1249),
)
LONGEST_COVERS = (
    [(5000, 0, 5000)],
    [(8, 0, 8), (625, 0, 1)],
    [(5000, 0, 4999), (5000, 4999, 1)],
    [(8, 0, 7), (625, 0, 624), (5000, 4999, 1)],
    [(5000, 420 * k, 420) for k in range(12)],
)

# Rounds above five thousand: with a hole and with none, by one period and by several.
TOO_LONG = (
    [(5001, 0, 1)],
    [(5001, 0, 5000)],
    [(5001, 3, 5001)],
    [(5001, 3, 5001), (1, 0, 1)],
    [(1, 0, 1), (71, 0, 1), (72, 0, 1)],
    [(71, 0, 1), (72, 0, 1)],
    [(10000, 0, 1)],
    [(16, 0, 1), (625, 0, 1)],
    [(HUNDRED, 0, 1)],
    [(HUNDRED, 7, HUNDRED)],
    [(HUNDRED, 7, HUNDRED), (HUNDRED - 1, 0, 1), (2, 0, 1)],
    [(2 ** (k + 1), 2 ** k, 1) for k in range(40)] + [(2 ** 40, 0, 1)],
)


def wakings_up_to(greatest):
    return [(period, first, length) for period in range(1, greatest + 1) for first in range(period)
            for length in range(1, period + 1)]


def small_plans():
    pairs, triples = wakings_up_to(5), wakings_up_to(3)
    plans = [[]] + [[one] for one in wakings_up_to(8)]
    plans += [[one, other] for one in pairs for other in pairs]
    plans += [[one, other, third] for one in triples for other in triples for third in triples]
    return plans


def hole_by_trial(plan, whole):
    for turn in range(whole):
        if not awake(plan, turn):
            return turn
    return None


def lists_of(paper):
    """All lists of a paper, each as often as it is there."""
    if paper[0] == "in":
        return []
    return [paper[2]] + [found for below in paper[2] for found in lists_of(below)]


class Hole(unittest.TestCase):
    def told(self, plan, answer):
        kept = list(plan)
        got = hole(plan)
        self.assertEqual(got, answer, plan)
        if got is not None:
            self.assertIs(type(got), int)
        self.assertEqual(plan, kept)

    def test_plans_that_cover(self):
        for plan in COVERS + LONGEST_COVERS:
            self.told(plan, None)

    def test_plans_that_do_not(self):
        for plan, answer in HOLES + LONGEST_HOLES:
            self.told(plan, answer)

    def test_no_wakings(self):
        self.told([], 0)

    def test_a_round_above_five_thousand(self):
        for plan in TOO_LONG:
            kept = list(plan)
            with self.assertRaises(TooMany):
                hole(plan)
            with self.assertRaises(MeetError):
                hole(plan)
            self.assertEqual(plan, kept)

    def test_by_trial(self):
        for plan in small_plans():
            self.told(plan, hole_by_trial(plan, 60 if len(plan) > 1 else 8))

    def test_more_than_twelve_wakings(self):
        plan = [(144, k, 1) for k in range(144)]
        self.told(plan, None)
        self.told(plan[:-1], 143)
        self.told(plan[1:], 0)
        self.told(plan[:77] + plan[78:], 77)


class CoverPaper(unittest.TestCase):
    def formed(self, paper, plan):
        self.assertIs(type(paper), tuple)
        self.assertIs(type(paper[1]), int)
        if paper[0] == "in":
            self.assertEqual(len(paper), 2)
            self.assertIn(paper[1], range(len(plan)))
            return
        self.assertEqual((paper[0], len(paper)), ("parted", 3))
        self.assertIs(type(paper[2]), list)
        self.assertGreaterEqual(paper[1], 2)
        self.assertEqual(len(paper[2]), paper[1])
        for below in paper[2]:
            self.formed(below, plan)

    def found(self, plan):
        kept = list(plan)
        paper = cover_paper(plan)
        self.assertIsNotNone(paper, plan)
        self.formed(paper, plan)
        self.assertIs(lets_by(plan, paper), True, (plan, paper))
        self.assertLessEqual(paper_knots(paper), 20000)
        lists = lists_of(paper)
        self.assertEqual(len({id(one) for one in lists}), len(lists))
        self.assertEqual(plan, kept)

    def none(self, plan):
        kept = list(plan)
        self.assertIsNone(cover_paper(plan), plan)
        self.assertEqual(plan, kept)

    def test_plans_that_cover(self):
        for plan in COVERS + LONGEST_COVERS:
            self.found(plan)

    def test_plans_that_cover_shifted(self):
        for plan in COVERS:
            for by in (-1, 1, 2, 5, 11, HUNDRED):
                self.found(shifted(plan, by))

    def test_plans_that_do_not(self):
        for plan, turn in HOLES + LONGEST_HOLES:
            self.none(plan)

    def test_no_wakings(self):
        self.none([])

    def test_a_waking_that_is_always_awake(self):
        self.found([(3, 0, 1), (4, 2, 4), (5, 0, 1)])

    def test_too_many_ahead_of_none(self):
        for plan in TOO_LONG:
            kept = list(plan)
            with self.assertRaises(TooMany):
                cover_paper(plan)
            self.assertEqual(plan, kept)

    def test_none_just_where_there_is_a_hole(self):
        covers = 0
        for plan in small_plans():
            if hole(plan) is None:
                covers += 1
                self.found(plan)
            else:
                self.none(plan)
        self.assertGreater(covers, 200)

    def test_primes_and_powers_as_periods(self):
        self.found([(4999, 2500, 4000), (4999, 0, 3000)])
        self.found([(4096, 0, 2048), (4096, 2048, 2048)])
        self.found([(2187, 1, 2186), (2, 0, 1), (2, 1, 1)])
        self.found([(2 * 3 * 5 * 7 * 11, 0, 2309), (11, 10, 1)])
        self.none([(4999, 2500, 4000), (4999, 1500, 999)])

    def test_more_than_twelve_wakings(self):
        self.found([(144, k, 1) for k in range(144)])
        self.found([(4608, 32 * k, 32) for k in reversed(range(144))])
        self.found([(4999, 35 * k % 4999, 35) for k in range(144)])
        self.none([(4608, 32 * k, 32) for k in range(143)])

    def test_the_told_paper_is_the_askers_own(self):
        for plan in COVERS + LONGEST_COVERS:
            paper = cover_paper(plan)
            kept = copy.deepcopy(paper)
            for one in lists_of(cover_paper(plan)):
                one.reverse()
                one.append(("in", -1))
            for one in lists_of(cover_paper(plan)):
                one.clear()
            self.assertEqual(paper, kept)
            self.found(plan)
            self.assertIs(lets_by(plan, paper), True)

    def test_a_plan_that_is_changed_later_changes_no_told_paper(self):
        plan = [(2, 0, 1), (2, 1, 1)]
        paper = cover_paper(plan)
        kept = copy.deepcopy(paper)
        plan.pop()
        self.none(plan)
        self.assertEqual(paper, kept)
        plan.append((2, 1, 1))
        self.found(plan)


if __name__ == "__main__":
    unittest.main()

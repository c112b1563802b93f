"""Points 20 to 24: sure plans, lonely shifts, meeting papers, waits; and what points 2, 3 and 4 say of them."""

import copy
import math
import random
import time
import unittest

from shiftmeet.errors import MeetError, NoPaper, TooMany
from shiftmeet.meets import next_together
from shiftmeet.papers import lets_by, paper_knots, paper_names
from shiftmeet.plans import plan_round, shifted
from shiftmeet.shifts import shifts
from shiftmeet.sure import lets_meet, lonely_shift, meeting_paper, paper_wait, worst

HUNDRED = 10 ** 100 - 1
SIXTY = 10 ** 60 - 1
FAR = (-HUNDRED, -SIXTY, SIXTY, HUNDRED)

PAIR = [(2, 0, 1), (3, 0, 1)]
GRID = [(3, 0, 1), (9, 0, 3)]

SURE = (
    ([(1, 0, 1)], [(1, 0, 1)]),
    ([(1, 0, 1)], [(6, 5, 1)]),
    ([(7, 3, 1)], [(9, 0, 1)]),
    ([(5, 0, 3)], [(5, 0, 3)]),
    ([(5, 4, 2)], [(5, 1, 4)]),
    ([(10, 0, 1), (6, 2, 1)], [(15, 0, 5)]),
    ([(12, 0, 1)], [(18, 0, 6), (12, 11, 1)]),
    (PAIR, PAIR),
    (PAIR, [(5, 0, 1), (2, 0, 1)]),
    (GRID, GRID),
    (GRID, [(2, 0, 1), (4, 0, 2)]),
    ([(4, 0, 1), (16, 0, 4)], [(4, 0, 1), (16, 0, 4)]),
    ([(6, 0, 1), (36, 0, 6)], [(10, 0, 1), (100, 0, 10)]),
    ([(24, 2 * k, 1) for k in range(12)], [(24, 0, 2)]),
    ([(144, k, 1) for k in range(12)], [(144, 12 * k, 1) for k in range(12)]),
)

# Plans that are not sure, with the lonely shift.
LONELY = (
    ([], [], 0),
    ([], [(1, 0, 1)], 0),
    ([(1, 0, 1), (2, 0, 1)], [], 0),
    ([(2, 0, 1)], [(2, 0, 1)], 1),
    ([(2, 0, 1)], [(2, 1, 1)], 0),
    ([(5, 0, 3)], [(5, 0, 2)], 3),
    ([(5, 0, 2)], [(5, 0, 3)], 2),
    ([(12, 0, 1)], [(18, 0, 1)], 1),
    ([(12, 0, 1)], [(18, 0, 5), (12, 11, 1)], 7),
    ([(2, 0, 1), (4, 1, 1)], [(4, 0, 1)], 3),
    ([(144, k, 1) for k in range(12)], [(144, 12 * k, 1) for k in range(1, 12)], 0),
    ([(144, k, 1) for k in range(12)], [(144, 12 * k, 1) for k in range(11)], 12),
    ([(144, k, 1) for k in range(12)], [(144, 132 - 12 * k, 1) for k in range(11)], 0),
)

# The round of the shifts is just five thousand.
LONGEST_SURE = (
    ([(5000, 0, 2500)], [(5000, 0, 2501)]),
    ([(5000, 420 * k, 420) for k in range(12)], [(5000, 7, 1)]),
    ([(8, 0, 1), (625, 0, 1)], [(5000, 0, 1), (8, 0, 8), (625, 7, 625)]),
    ([(5000 * 7, 0, 2500)], [(5000 * 11, 2500, 2501)]),
    ([(5000 * 10 ** 90, 4999, 5000)], [(5000 * (10 ** 90 + 1), 1, 1)]),
)
LONGEST_LONELY = (
    ([(5000, 0, 2500)], [(5000, 0, 2500)], 2500),
    ([(5000, 0, 1)], [(5000, 1, 4999)], 0),
    ([(5000, 0, 1)], [(5000, 0, 4999)], 1),
    ([(5000 * 7, 4999, 1)], [(5000 * 11, 0, 1)], 0),
    ([(5000 * 10 ** 90, 0, 4999)], [(5000 * (10 ** 90 + 1), 0, 1)], 4999),
)

# The round of the shifts is above five thousand: sure plans and others.
TOO_LONG = (
    ([(5001, 0, 1)], [(5001, 0, 1)]),
    ([(5001, 0, 5001)], [(5001, 0, 1)]),
    ([(5001, 0, 5001), (1, 0, 1)], [(5001, 0, 1)]),
    ([(71, 0, 1), (72, 0, 1)], [(71 * 72, 0, 1)]),
    ([(71, 0, 71), (72, 0, 72)], [(71, 0, 1), (72, 0, 1)]),
    ([(16, 0, 1), (625, 0, 1)], [(16, 0, 1), (625, 0, 1)]),
    ([(HUNDRED, 0, 1)], [(HUNDRED, 0, 1)]),
    ([(HUNDRED, 5, HUNDRED)], [(HUNDRED, 0, 1), (2, 0, 1)]),
)


def wakings_up_to(greatest):
    return [(period, first, length) for period in range(1, greatest + 1) for first in range(period)
            for length in range(1, period + 1)]


def small_pairs():
    singles, twos = wakings_up_to(5), [(2, 0, 1), (2, 1, 1), (3, 0, 1), (3, 2, 1), (4, 1, 1), (4, 2, 2), (6, 5, 2)]
    pairs = [([one], [other]) for one in singles for other in singles]
    pairs += [([one, first], [other, last]) for one in twos for first in twos for other in twos for last in twos]
    pairs += [([], []), ([], [(3, 0, 1)]), ([(3, 0, 1)], [])]
    return pairs


def is_awake(plan, turn):
    return any((turn - first) % period < length for period, first, length in plan)


def meets_at(one, other, shift):
    """Whether there is a turn together at the shift, by trial over a whole round of both."""
    whole = math.lcm(*[waking[0] for waking in one + other])
    return any(is_awake(one, turn) and is_awake(other, turn - shift) for turn in range(whole))


def lonely_by_trial(one, other):
    for shift in range(math.lcm(*[waking[0] for waking in one + other])):
        if not meets_at(one, other, shift):
            return shift
    return None


def right_by_trial(one, other, part, paper):
    """The walk of point 13, with the wakings of the named pair tried at each shift of the part."""
    step, rest = part
    if paper[0] == "in":
        if not 0 <= paper[1] < len(one) * len(other):
            return False
        pair = [one[paper[1] // len(other)]], [other[paper[1] % len(other)]]
        whole = math.lcm(pair[0][0][0], pair[1][0][0], step)
        return all(meets_at(*pair, shift) for shift in range(rest, whole, step))
    by, papers = paper[1:]
    return by >= 2 and by == len(papers) and all(
        right_by_trial(one, other, (step * by, rest + step * c), below) for c, below in enumerate(papers))


def worst_by_trial(one, other):
    """All shifts and turns of a whole round of both, one by one."""
    whole = math.lcm(*[waking[0] for waking in one + other])
    ones, others = [[is_awake(plan, turn) for turn in range(whole)] for plan in (one, other)]
    found = []
    for shift in range(whole):
        both = [ones[turn] and others[turn - shift] for turn in range(whole)]
        if True not in both:
            return None
        for turn in range(whole):
            found.append(((both[turn:] + both).index(True), -shift, -turn))
    wait, shift, turn = max(found)
    return (wait, -shift, -turn)


def spoiled_in_one_place(paper, wakings):
    """Papers like the told one but in one knot."""
    if paper[0] == "in":
        found = [("in", k) for k in range(-1, wakings + 1) if k != paper[1]]
        return found + [("parted", 1, [paper]), ("parted", 0, []), ("parted", 2, [paper, ("in", wakings)])]
    by, papers = paper[1:]
    found = [("in", 0), ("parted", by + 1, papers), ("parted", by - 1, papers), ("parted", -by, papers)]
    found += [("parted", by, papers[:-1]), ("parted", by, papers + [("in", 0)])]
    found += [("parted", by, papers[1:] + papers[:1])]
    for c, below in enumerate(papers):
        found += [("parted", by, papers[:c] + [other] + papers[c + 1:])
                  for other in spoiled_in_one_place(below, wakings)]
    return found


def lists_of(paper):
    """All lists of a paper, each as often as it is there."""
    if paper[0] == "in":
        return []
    return [paper[2]] + [found for below in paper[2] for found in lists_of(below)]


class Settled(unittest.TestCase):
    def lonely(self, one, other):
        kept = (list(one), list(other))
        shift = lonely_shift(one, other)
        self.assertEqual((one, other), kept)
        if shift is not None:
            self.assertIs(type(shift), int)
        return shift

    def paper(self, one, other):
        kept = (list(one), list(other))
        paper = meeting_paper(one, other)
        self.assertEqual((one, other), kept)
        if paper is not None:
            self.assertIs(type(paper), tuple)
            self.assertLessEqual(paper_knots(paper), 20000)
            self.assertIs(lets_meet(one, other, paper), True)
            self.assertIs(lets_by(shifts(one, other), paper), True)
        return paper

    def sure(self, one, other):
        self.assertIsNone(self.lonely(one, other), (one, other))
        self.assertIsNotNone(self.paper(one, other), (one, other))

    def unsure(self, one, other, shift):
        self.assertEqual(self.lonely(one, other), shift, (one, other))
        self.assertIsNone(self.paper(one, other), (one, other))

    def test_plans_that_are_sure(self):
        for one, other in SURE + LONGEST_SURE:
            self.sure(one, other)
            self.sure(other, one)

    def test_plans_that_are_not(self):
        for one, other, shift in LONELY + LONGEST_LONELY:
            self.unsure(one, other, shift)

    def test_plans_that_are_sure_stay_so_shifted(self):
        for one, other in SURE:
            for by in (-1, 2, 7) + FAR:
                self.sure(shifted(one, by), other)
                self.sure(one, shifted(other, by))

    def test_no_turn_together_at_the_lonely_shift_and_one_at_each_lesser(self):
        for one, other, lonely in LONELY + LONGEST_LONELY:
            for turn in (0, -5, 77) + FAR:
                self.assertIsNone(next_together(one, other, lonely, turn))
            for shift in range(lonely):
                self.assertIsNotNone(next_together(one, other, shift, 0))

    def test_a_turn_together_at_each_shift_of_sure_plans(self):
        for one, other in SURE:
            for shift in range(plan_round(shifts(one, other))):
                self.assertIsNotNone(next_together(one, other, shift, 0))

    def test_by_trial(self):
        sure = 0
        for one, other in small_pairs():
            lonely = lonely_by_trial(one, other)
            if lonely is None:
                sure += 1
                self.sure(one, other)
                paper = meeting_paper(one, other)
                self.assertTrue(right_by_trial(one, other, (1, 0), paper), (one, other, paper))
            else:
                self.unsure(one, other, lonely)
        self.assertGreater(sure, 1000)

    def test_a_round_of_just_five_thousand(self):
        for one, other in LONGEST_SURE:
            self.assertEqual(plan_round(shifts(one, other)), 5000)
        for one, other, shift in LONGEST_LONELY:
            self.assertEqual(plan_round(shifts(one, other)), 5000)

    def test_too_many_for_both_ahead_of_none(self):
        for one, other in TOO_LONG:
            kept = (list(one), list(other))
            for asked in (lonely_shift, meeting_paper):
                with self.assertRaises(TooMany):
                    asked(one, other)
                with self.assertRaises(MeetError):
                    asked(other, one)
            self.assertEqual((one, other), kept)

    def test_long_periods_with_a_short_round_of_the_shifts(self):
        self.sure([(HUNDRED, 0, 1)], [(HUNDRED - 1, 9, 1)])
        self.sure([(HUNDRED, 5, HUNDRED)], [(9, 0, 1)])
        self.unsure([(HUNDRED, 5, 1)], [(9, 0, 1)], 0)
        self.unsure([(HUNDRED, 5, 1)], [(9, 5, 7)], 1)

    def test_in_good_time(self):
        begin = time.perf_counter()
        one, other = [(5000, k, 1) for k in range(12)], [(5000, 420 * k, 409) for k in range(12)]
        self.sure(one, other)
        self.unsure(one, [(5000, 12 * k, 1) for k in range(12)], 12)
        self.assertLess(time.perf_counter() - begin, 5)

    def test_the_told_paper_is_the_askers_own(self):
        for one, other in SURE:
            paper = meeting_paper(one, other)
            kept = copy.deepcopy(paper)
            lists = lists_of(paper)
            self.assertEqual(len({id(one) for one in lists}), len(lists))
            for told in lists_of(meeting_paper(one, other)):
                told.clear()
            self.assertEqual(paper, kept)
            self.assertEqual(meeting_paper(one, other), kept)

    def test_plans_that_are_changed_later_change_no_told_paper(self):
        one, other = [(2, 0, 1), (3, 0, 1)], [(2, 0, 1), (4, 1, 1), (4, 3, 1)]
        paper = meeting_paper(one, other)
        kept = copy.deepcopy(paper)
        one.pop()
        other.clear()
        self.unsure(one, other, 0)
        self.assertEqual(paper, kept)


class LetsMeet(unittest.TestCase):
    def told(self, one, other, paper):
        kept = (list(one), list(other), copy.deepcopy(paper))
        got = lets_meet(one, other, paper)
        self.assertIs(type(got), bool)
        self.assertEqual((one, other, paper), kept)
        return got

    def test_right_papers(self):
        self.assertIs(self.told(PAIR, PAIR, ("in", 1)), True)
        self.assertIs(self.told(PAIR, PAIR, ("in", 2)), True)
        self.assertIs(self.told(PAIR, PAIR, ("parted", 2, [("in", 0), ("in", 1)])), True)
        self.assertIs(self.told(PAIR, PAIR, ("parted", 3, [("in", 3), ("in", 2), ("in", 1)])), True)
        self.assertIs(self.told([(HUNDRED, 0, 1)], [(HUNDRED, 0, HUNDRED)], ("in", 0)), True)

    def test_wrong_papers(self):
        for paper in (("in", 0), ("in", 3), ("in", 4), ("in", -1), ("in", HUNDRED), ("parted", 0, []),
                      ("parted", 1, [("in", 1)]), ("parted", 2, [("in", 1)]), ("parted", 2, [("in", 1)] * 3),
                      ("parted", 2, [("in", 1), ("in", 0)]), ("parted", HUNDRED, [("in", 1)]),
                      ("parted", -2, [("in", 1), ("in", 1)]), ("parted", 2, [("in", 0), ("in", -3)])):
            self.assertIs(self.told(PAIR, PAIR, paper), False, paper)

    def test_no_paper_for_plans_of_no_wakings(self):
        for one, other in (([], []), ([], PAIR), (PAIR, [])):
            for paper in (("in", 0), ("in", -1), ("parted", 0, []), ("parted", 2, [("in", 0), ("in", 0)])):
                self.assertIs(self.told(one, other, paper), False)

    def test_papers_spoiled_in_one_place(self):
        counted = {True: 0, False: 0}
        for one, other in SURE[:10]:
            paper = meeting_paper(one, other)
            if paper[0] == "in":
                paper = ("parted", 2, [paper, ("parted", 3, [paper, paper, paper])])
            self.assertIs(self.told(one, other, paper), True)
            for spoiled in spoiled_in_one_place(paper, len(one) * len(other)):
                right = right_by_trial(one, other, (1, 0), spoiled)
                self.assertIs(self.told(one, other, spoiled), right, (one, other, spoiled))
                counted[right] += 1
        self.assertGreater(counted[True], 5)
        self.assertGreater(counted[False], 100)

    def test_a_paper_of_another_two_plans(self):
        one, other = [(2, 0, 1), (2, 1, 1)], [(2, 0, 1)]
        paper = meeting_paper(one, other)
        self.assertEqual(paper, ("parted", 2, [("in", 0), ("in", 1)]))
        self.assertIs(self.told(shifted(one, 1), other, paper), False)
        self.assertIs(self.told(one, shifted(other, 1), paper), False)
        self.assertIs(self.told(shifted(one, 1), shifted(other, 1), paper), True)
        self.assertIs(self.told(one[:1], other, paper), False)

    def test_as_the_walker_lets_it_by_for_the_shifts(self):
        papers = [meeting_paper(one, other) for one, other in SURE]
        for one, other in SURE:
            for paper in papers:
                self.assertIs(self.told(one, other, paper), lets_by(shifts(one, other), paper))


class PaperWait(unittest.TestCase):
    ONE = [(4, 0, 2), (6, 0, 1)]
    OTHER = [(10, 0, 1), (15, 0, 15), (7, 0, 1)]

    def told(self, one, other, paper, wait):
        kept = (list(one), list(other), copy.deepcopy(paper))
        got = paper_wait(one, other, paper)
        self.assertIs(type(got), int)
        self.assertEqual(got, wait, paper)
        self.assertEqual((one, other, paper), kept)

    def refused(self, one, other, paper):
        kept = (list(one), list(other), copy.deepcopy(paper))
        with self.assertRaises(NoPaper):
            paper_wait(one, other, paper)
        self.assertEqual((one, other, paper), kept)

    def test_one_place(self):
        for k, wait in ((0, 20), (1, 60), (2, 28), (4, 30), (5, 42)):
            self.told(self.ONE, self.OTHER, ("in", k), wait)
        for k, wait in ((0, 20), (2, 60), (3, 30), (4, 28), (5, 42)):
            self.told(self.OTHER, self.ONE, ("in", k), wait)

    def test_many_places(self):
        self.told(self.ONE, self.OTHER, ("parted", 2, [("in", 3), ("in", 0)]), 30)
        self.told(self.ONE, self.OTHER, ("parted", 2, [("in", 0), ("in", 0)]), 20)
        self.told(self.ONE, self.OTHER, ("parted", 2, [("in", 1), ("in", 2)]), 60)
        self.told(self.ONE, self.OTHER, ("parted", 2, [("in", 2), ("in", 5)]), 42)
        deep = ("parted", 2, [("in", 3), ("parted", 3, [("in", 0), ("in", 5), ("in", 0)])])
        self.told(self.ONE, self.OTHER, deep, 42)
        self.told([(2, 0, 1), (2, 1, 1)], [(2, 0, 1)], ("parted", 2, [("in", 0), ("in", 1)]), 2)

    def test_always_awake(self):
        self.told([(1, 0, 1)], [(1, 0, 1)], ("in", 0), 1)
        self.told([(9, 3, 9)], [(6, 0, 6)], ("in", 0), 18)

    def test_no_paper(self):
        self.refused(self.ONE, self.OTHER, ("in", 3))
        self.refused(self.ONE, self.OTHER, ("in", 6))
        self.refused(self.ONE, self.OTHER, ("in", -1))
        self.refused(self.ONE, self.OTHER, ("parted", 2, [("in", 3), ("in", 3)]))
        self.refused(self.ONE, self.OTHER, ("parted", 2, [("in", 0), ("in", 6)]))
        self.refused(self.ONE, self.OTHER, ("parted", 2, [("in", 0), ("in", -6)]))
        self.refused(self.ONE, self.OTHER, ("parted", 3, [("in", 0), ("in", 0)]))
        self.refused(self.ONE, self.OTHER, ("parted", 1, [("in", 0)]))
        self.refused(self.ONE, self.OTHER, ("parted", 0, []))
        self.refused(self.ONE, self.OTHER, ("parted", HUNDRED, [("in", 0)]))
        for one, other in (([], []), ([], PAIR), (PAIR, [])):
            self.refused(one, other, ("in", 0))
            self.refused(one, other, ("parted", 0, []))

    def test_the_refusal_is_a_meet_error(self):
        with self.assertRaises(MeetError):
            paper_wait(PAIR, PAIR, ("in", 0))

    def test_the_greatest_round_of_the_named_pairs(self):
        for one, other in SURE + LONGEST_SURE:
            paper = meeting_paper(one, other)
            wanted = max(math.lcm(one[k // len(other)][0], other[k % len(other)][0]) for k in paper_names(paper))
            self.told(one, other, paper, wanted)

    def test_spoiled_in_one_place(self):
        for one, other in SURE[:9]:
            paper = meeting_paper(one, other)
            for spoiled in spoiled_in_one_place(paper, len(one) * len(other)):
                if lets_meet(one, other, spoiled):
                    wanted = max(math.lcm(one[k // len(other)][0], other[k % len(other)][0])
                                 for k in paper_names(spoiled))
                    self.told(one, other, spoiled, wanted)
                else:
                    self.refused(one, other, spoiled)

    def test_great_numbers(self):
        self.told([(HUNDRED, 0, 1)], [(HUNDRED - 1, 5, 1)], ("in", 0), HUNDRED * (HUNDRED - 1))
        self.told([(HUNDRED, 0, 1)], [(SIXTY, 5, SIXTY)], ("in", 0), HUNDRED * SIXTY // (10 ** 20 - 1))
        self.told([(SIXTY, 0, 1), (7, 0, 1)], [(SIXTY - 1, 0, 1), (5, 0, 1)],
                  ("parted", 2, [("in", 3), ("in", 0)]), SIXTY * (SIXTY - 1))

    def test_a_paper_with_many_knots_in_good_time(self):
        one = [(HUNDRED - k, 0, 1) for k in range(12)]
        other = [(SIXTY - k, 3, SIXTY - k) for k in range(12)]
        paper = ("parted", 4000, [("parted", 4, [("in", (4 * k + c) % 144) for c in range(4)]) for k in range(4000)])
        begin = time.perf_counter()
        self.told(one, other, paper, max(math.lcm(HUNDRED - k, SIXTY - c) for k in range(12) for c in range(12)))
        self.assertLess(time.perf_counter() - begin, 10)

    def test_the_next_turn_together_is_in_fewer_turns(self):
        draw = random.Random(11)
        for one, other in SURE + LONGEST_SURE:
            wait = paper_wait(one, other, meeting_paper(one, other))
            for k in range(60):
                great = draw.choice((10, 1000, SIXTY, HUNDRED))
                shift, turn = draw.randint(-great, great), draw.randint(-great, great)
                found = next_together(one, other, shift, turn)
                self.assertLess(found - turn, wait)

    def test_fewer_turns_at_every_shift_and_turn_of_a_round(self):
        for one, other in SURE[:10]:
            wait = paper_wait(one, other, meeting_paper(one, other))
            whole = math.lcm(*[waking[0] for waking in one + other])
            for shift in range(whole):
                for turn in range(whole):
                    self.assertLess(next_together(one, other, shift, turn) - turn, wait)


class Worst(unittest.TestCase):
    def told(self, one, other):
        kept = (list(one), list(other))
        got = worst(one, other)
        self.assertEqual((one, other), kept)
        if got is not None:
            self.assertIs(type(got), tuple)
            self.assertEqual([type(number) for number in got], [int, int, int])
        return got

    def refused(self, one, other):
        kept = (list(one), list(other))
        with self.assertRaises(TooMany):
            worst(one, other)
        with self.assertRaises(MeetError):
            worst(other, one)
        self.assertEqual((one, other), kept)

    def test_by_trial(self):
        for one, other in small_pairs():
            self.assertEqual(self.told(one, other), worst_by_trial(one, other), (one, other))

    def test_sure_plans_by_trial(self):
        pairs = [pair for pair in SURE if math.lcm(*[waking[0] for waking in pair[0] + pair[1]]) < 100]
        self.assertGreater(len(pairs), 8)
        for one, other in pairs:
            for by in (0, 1, 5):
                plan = shifted(other, by)
                self.assertEqual(self.told(one, plan), worst_by_trial(one, plan), (one, plan))
                self.assertEqual(self.told(plan, one), worst_by_trial(plan, one), (plan, one))

    def test_told_ones(self):
        self.assertEqual(self.told([(1, 0, 1)], [(1, 0, 1)]), (0, 0, 0))
        self.assertEqual(self.told([(1, 0, 1)], [(6, 2, 1)]), (5, 0, 3))
        self.assertEqual(self.told([(6, 2, 1)], [(1, 0, 1)]), (5, 0, 3))
        self.assertEqual(self.told([(6, 5, 1)], [(1, 0, 1)]), (5, 0, 0))
        self.assertEqual(self.told([(6, 0, 1)], [(1, 0, 1)]), (5, 0, 1))
        self.assertEqual(self.told([(5, 0, 3)], [(5, 0, 3)]), (4, 2, 3))
        self.assertEqual(self.told([(2, 0, 1)], [(3, 0, 1)]), (5, 0, 1))

    def test_the_round_may_begin_between_two_meetings(self):
        # The longest wait begins at the round's end, and in it the next round begins.
        self.assertEqual(self.told([(10, 2, 1), (10, 5, 1)], [(1, 0, 1)]), (6, 0, 6))
        self.assertEqual(self.told([(10, 4, 1), (10, 9, 1)], [(1, 0, 1)]), (4, 0, 0))
        self.assertEqual(self.told([(10, 3, 1), (10, 9, 1)], [(1, 0, 1)]), (5, 0, 4))
        self.assertEqual(self.told([(10, 5, 1), (10, 9, 1)], [(1, 0, 1)]), (5, 0, 0))

    def test_none_where_the_plans_are_not_sure(self):
        for one, other, shift in LONELY:
            if plan_round(one + other) * plan_round(shifts(one, other)) <= 20000:
                self.assertIsNone(self.told(one, other))
            else:
                self.refused(one, other)

    def test_plans_of_no_wakings(self):
        self.assertIsNone(self.told([], []))
        self.assertIsNone(self.told([], [(20000, 0, 1)]))
        self.assertIsNone(self.told([(20000, 0, 1)], []))
        self.refused([], [(20001, 0, 1)])
        self.refused([(HUNDRED, 0, HUNDRED)], [])

    def test_just_twenty_thousand(self):
        self.assertEqual(self.told([(1, 0, 1)], [(20000, 5, 1)]), (19999, 0, 6))
        self.assertEqual(self.told([(20000, 19999, 1)], [(1, 0, 1)]), (19999, 0, 0))
        self.assertIsNone(self.told([(100, 0, 1)], [(200, 0, 1)]))
        self.assertEqual(self.told([(100, 0, 1)], [(200, 0, 100)]), (199, 0, 1))
        self.assertEqual(self.told([(32, 0, 1)], [(625, 0, 1)]), (19999, 0, 1))
        self.assertEqual(self.told([(100, 0, 100)], [(200, 0, 100)]), (100, 0, 100))
        self.assertEqual(self.told([(4, 0, 4), (25, 0, 1)], [(8, 0, 1), (25, 3, 1)])[0], 7)

    def test_above_twenty_thousand_ahead_of_none(self):
        self.refused([(1, 0, 1)], [(20001, 0, 1)])
        self.refused([(142, 0, 1)], [(142, 0, 1)])
        self.refused([(142, 0, 142)], [(142, 0, 1)])
        self.refused([(100, 0, 1)], [(201, 0, 1)])
        self.refused([(4, 0, 1), (25, 0, 1)], [(16, 0, 1), (25, 0, 1)])
        self.refused([(142, 0, 142), (1, 0, 1)], [(71, 0, 71), (2, 0, 2)])
        self.refused([(HUNDRED, 0, 1)], [(HUNDRED, 0, 1)])
        self.refused([(HUNDRED, 0, HUNDRED)], [(SIXTY, 0, SIXTY)])
        self.refused([(5001, 0, 1)], [(5001, 0, 1)])

    def test_the_product_and_not_one_of_both(self):
        # The round of the shifts is 141, of all periods 141: their product is a little below twenty thousand.
        self.assertIsNone(self.told([(141, 0, 1)], [(141, 0, 1)]))
        self.assertEqual(self.told([(141, 0, 71)], [(141, 0, 71)]), (140, 70, 71))
        self.assertEqual(self.told([(141, 0, 141)], [(141, 0, 71)]), (70, 0, 71))

    def test_no_wait_beyond_the_told_one(self):
        draw = random.Random(12)
        for one, other in (SURE[7], SURE[9], SURE[10], SURE[13], ([(16, 3, 1), (5, 0, 3)], [(25, 7, 2), (10, 0, 6)])):
            wait, shift, turn = self.told(one, other)
            self.assertEqual(next_together(one, other, shift, turn) - turn, wait)
            self.assertLess(wait, paper_wait(one, other, meeting_paper(one, other)))
            for k in range(300):
                great = draw.choice((10, 1000, SIXTY, HUNDRED))
                shift, turn = draw.randint(-great, great), draw.randint(-great, great)
                self.assertLessEqual(next_together(one, other, shift, turn) - turn, wait)

    def test_in_good_time(self):
        begin = time.perf_counter()
        one = [(100, 8 * k, 1) for k in range(12)]
        other = [(200, 17 * k, 4) for k in range(11)] + [(200, 0, 100)]
        self.assertEqual(plan_round(shifts(one, other)) * 200, 20000)
        self.assertIsNotNone(self.told(one, other))
        self.assertEqual(self.told([(20000, k, 1) for k in range(12)], [(1, 0, 1)] * 12), (19988, 0, 12))
        self.assertLess(time.perf_counter() - begin, 5)


if __name__ == "__main__":
    unittest.main()

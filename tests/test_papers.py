"""Points 11, 13 and 15: parts, papers and the walker; and what points 2 and 4 say of them."""

import copy
import unittest

from shiftmeet.hits import first_hit
from shiftmeet.papers import lets_by, lies_in, paper_depth, paper_knots, paper_names, right_for
from shiftmeet.plans import awake

HUNDRED = 10 ** 100 - 1
SIXTY = 10 ** 60 - 1

ALWAYS = [(1, 0, 1)]

# Each turn is awake by one waking alone, so no other number is right in a place.
QUARTERS = [(4, 0, 1), (4, 1, 1), (4, 2, 1), (4, 3, 1)]
QUARTERS_PAPER = ("parted", 2, [("parted", 2, [("in", 0), ("in", 2)]), ("parted", 2, [("in", 1), ("in", 3)])])

# The wakings number k < 40 have the turns that 2 divides just k times; the last one has those that it divides oftener.
HALVES = [(2 ** (k + 1), 2 ** k, 1) for k in range(40)] + [(2 ** 40, 0, 1)]


def comb(depth, last):
    paper = ("in", last)
    for k in reversed(range(depth)):
        paper = ("parted", 2, [paper, ("in", k)])
    return paper


def papers_up_to(depth, names, greatest):
    """All papers of at most this depth with a by from 2 to greatest and as many papers."""
    found = [("in", k) for k in names]
    for level in range(depth):
        rows = [[paper] for paper in found]
        bigger = []
        for by in range(2, greatest + 1):
            rows = [row + [paper] for row in rows for paper in found]
            bigger += [("parted", by, row) for row in rows]
        found = [("in", k) for k in names] + bigger
    return found


def right_by_trial(plan, step, rest, paper, whole):
    """Whether each number of the part from 0 to whole - 1 is awake by the waking to which the paper leads it."""
    return all(leads(plan, paper, turn, rest, step) for turn in range(rest, whole, step))


def leads(plan, paper, turn, rest, step):
    place = (turn - rest) // step
    while paper[0] == "parted":
        place, paper = place // paper[1], paper[2][place % paper[1]]
    return awake([plan[paper[1]]], turn)


def spoiled(paper, spoil):
    """All papers that come of one knot of this one, spoiled."""
    found = spoil(paper)
    if paper[0] == "parted":
        for place, below in enumerate(paper[2]):
            for other in spoiled(below, spoil):
                papers = list(paper[2])
                papers[place] = other
                found.append(("parted", paper[1], papers))
    return found


class LiesIn(unittest.TestCase):
    def told(self, waking, part, answer):
        self.assertIs(lies_in(waking, part), answer, (waking, part))

    def test_ordinary_parts(self):
        self.told((4, 1, 1), (4, 1), True)
        self.told((4, 1, 1), (8, 5), True)
        self.told((4, 1, 1), (4, 2), False)
        self.told((4, 1, 1), (2, 1), False)
        self.told((4, 1, 1), (1, 0), False)
        self.told((4, 1, 3), (2, 1), True)
        self.told((4, 1, 3), (2, 0), False)

    def test_around_begin_and_end(self):
        for rest, answer in ((1, False), (2, True), (4, True), (5, False)):
            self.told((7, 2, 3), (7, rest), answer)
            self.told((7, 2, 3), (21, rest), answer)
            self.told((7, 2, 3), (21, rest + 14), answer)

    def test_a_waking_that_is_always_awake(self):
        for part in ((1, 0), (2, 1), (5, 3), (HUNDRED, HUNDRED - 1)):
            self.told((1, 0, 1), part, True)
            self.told((6, 5, 6), part, True)
            self.told((HUNDRED, 4, HUNDRED), part, True)

    def test_one_turn_asleep(self):
        for step in (1, 5, 7, 35, SIXTY * 100 + 1):
            self.told((6, 0, 5), (step, 0), False)
        self.told((6, 0, 5), (2, 0), True)
        self.told((6, 0, 5), (2, 1), False)
        self.told((6, 0, 5), (3, 2), False)
        self.told((6, 0, 5), (3, 1), True)

    def test_by_trial_over_a_whole_round(self):
        for period in range(1, 9):
            for first in range(period):
                for length in range(1, period + 1):
                    for step in range(1, 13):
                        for rest in range(step):
                            waking = (period, first, length)
                            # Behind so many numbers of the part its rests by the period come again.
                            turns = range(rest, rest + step * period, step)
                            answer = all(awake([waking], turn) for turn in turns)
                            self.told(waking, (step, rest), answer)

    def test_great_numbers(self):
        self.told((HUNDRED, 0, 1), (HUNDRED, 0), True)
        self.told((HUNDRED, 0, 1), (HUNDRED, 1), False)
        self.told((HUNDRED, HUNDRED - 1, 2), (HUNDRED, 0), True)
        self.told((HUNDRED, HUNDRED - 1, 2), (HUNDRED, HUNDRED - 1), True)
        self.told((HUNDRED, HUNDRED - 1, 2), (HUNDRED, HUNDRED - 2), False)
        self.told((10 ** 99, 0, 10 ** 99 - 10 ** 50 + 1), (10 ** 50, 0), True)
        self.told((10 ** 99, 0, 10 ** 99 - 10 ** 50), (10 ** 50, 0), False)
        self.told((10 ** 99, 0, 10 ** 99 - 10 ** 50 + 1), (10 ** 50, 1), False)
        self.told((10 ** 99, 10 ** 98, 10 ** 99 - 10 ** 50 + 1), (10 ** 50, 0), True)

    def test_great_numbers_by_the_first_turn_asleep(self):
        answers = []
        for period in (HUNDRED, 10 ** 99, 6 ** 100, SIXTY * 10 ** 30):
            for step in (2 ** 50, 10 ** 50, 3 ** 80, HUNDRED, 10 ** 99, 7):
                for asleep in (1, 2, 6 ** 30, 10 ** 49, period // 2, period - 1):
                    for first in (0, 10 ** 49, period - 1):
                        for rest in (0, step // 2, step - 1):
                            waking = (period, first, period - asleep)
                            end = first + period - asleep
                            answer = first_hit(rest - end, step, period, asleep) is None
                            self.told(waking, (step, rest), answer)
                            answers.append(answer)
        self.assertIn(True, answers)
        self.assertIn(False, answers)


class RightFor(unittest.TestCase):
    def told(self, plan, part, paper, answer):
        kept = copy.deepcopy((plan, paper))
        self.assertIs(right_for(plan, part, paper), answer, (plan, part, paper))
        self.assertEqual((plan, paper), kept)

    def test_in(self):
        self.told([(4, 1, 1), (4, 0, 3)], (4, 1), ("in", 0), True)
        self.told([(4, 1, 1), (4, 0, 3)], (4, 1), ("in", 1), True)
        self.told([(4, 1, 1), (4, 0, 3)], (4, 2), ("in", 0), False)
        self.told([(4, 1, 1), (4, 0, 3)], (4, 2), ("in", 1), True)
        self.told([(4, 1, 1), (4, 0, 3)], (2, 0), ("in", 1), True)
        self.told([(4, 1, 1), (4, 0, 3)], (2, 1), ("in", 1), False)

    def test_in_a_waking_that_is_not_there(self):
        for plan in ([], ALWAYS, ALWAYS * 3, ALWAYS * 12, ALWAYS * 144):
            many = len(plan)
            for k in (-HUNDRED, -many - 1, -many, -many + 1, -2, -1, many, many + 1, HUNDRED):
                if not 0 <= k < many:
                    self.told(plan, (1, 0), ("in", k), False)
                    self.told(plan, (6, 5), ("in", k), False)
            for k in range(many):
                self.told(plan, (1, 0), ("in", k), True)

    def test_the_papers_of_a_part_in_their_order(self):
        plan = [(6, 1, 1), (6, 3, 1), (6, 5, 1)]
        self.told(plan, (2, 1), ("parted", 3, [("in", 0), ("in", 1), ("in", 2)]), True)
        self.told(plan, (2, 1), ("parted", 3, [("in", 1), ("in", 0), ("in", 2)]), False)
        self.told(plan, (2, 1), ("parted", 3, [("in", 2), ("in", 0), ("in", 1)]), False)
        self.told(plan, (2, 0), ("parted", 3, [("in", 0), ("in", 1), ("in", 2)]), False)
        self.told(plan, (1, 0), ("parted", 3, [("in", 0), ("in", 1), ("in", 2)]), False)

    def test_great_steps(self):
        plan = [(HUNDRED, 5, 1), (2 * HUNDRED, 8, 1), (2 * HUNDRED, 8 + HUNDRED, 1)]
        self.told(plan, (HUNDRED, 5), ("in", 0), True)
        self.told(plan, (HUNDRED, 5), ("parted", 2, [("in", 0), ("in", 0)]), True)
        self.told(plan, (HUNDRED, 8), ("parted", 2, [("in", 1), ("in", 2)]), True)
        self.told(plan, (HUNDRED, 8), ("parted", 2, [("in", 2), ("in", 1)]), False)
        self.told(plan, (HUNDRED, 8), ("parted", 3, [("in", 1), ("in", 2), ("in", 1)]), False)

    def test_by_trial(self):
        papers = papers_up_to(1, (0, 1), 4) + papers_up_to(2, (0, 1), 2)
        plans = ([(2, 0, 1), (2, 1, 1)], [(4, 0, 2), (4, 2, 2)], [(3, 0, 2), (6, 2, 4)], [(4, 1, 3), (2, 0, 1)])
        answers = {True: 0, False: 0}
        for plan in plans:
            for part in ((1, 0), (2, 0), (2, 1), (3, 2)):
                for paper in papers:
                    answer = right_by_trial(plan, part[0], part[1], paper, 288)
                    self.told(plan, part, paper, answer)
                    answers[answer] += 1
        self.assertGreater(min(answers.values()), 40)


class LetsBy(unittest.TestCase):
    def told(self, plan, paper, answer):
        kept = copy.deepcopy((plan, paper))
        self.assertIs(lets_by(plan, paper), answer, (plan, paper))
        self.assertIs(right_for(plan, (1, 0), paper), answer, (plan, paper))
        self.assertEqual((plan, paper), kept)

    def all_spoiled(self, plan, paper, spoil):
        self.told(plan, paper, True)
        papers = spoiled(paper, spoil)
        self.assertNotEqual(papers, [])
        for other in papers:
            self.told(plan, other, False)

    def test_papers_that_are_right(self):
        self.told(ALWAYS, ("in", 0), True)
        self.told([(5, 2, 5)], ("in", 0), True)
        self.told([(2, 0, 1), (2, 1, 1)], ("parted", 2, [("in", 0), ("in", 1)]), True)
        halves = ("parted", 2, [("in", 0), ("in", 1)])
        self.told([(4, 0, 2), (4, 2, 2)], ("parted", 2, [halves, halves]), True)
        self.told(QUARTERS, QUARTERS_PAPER, True)
        self.told(QUARTERS, ("parted", 4, [("in", 0), ("in", 1), ("in", 2), ("in", 3)]), True)

    def test_a_plan_that_covers_by_unlike_periods(self):
        plan = [(2, 0, 1), (3, 0, 1), (4, 1, 1), (6, 5, 1), (12, 7, 1)]
        odd = ("parted", 3, [("parted", 2, [("in", 2), ("in", 4)]), ("in", 1), ("in", 3)])
        self.told(plan, ("parted", 2, [("in", 0), odd]), True)
        self.told(plan, ("parted", 2, [odd, ("in", 0)]), False)

    def test_no_wakings(self):
        for paper in (("in", 0), ("in", -1), ("parted", 2, [("in", 0), ("in", 0)]), ("parted", 0, []),
                      ("parted", 2, [])):
            self.told([], paper, False)

    def test_a_number_of_no_waking_in_one_place(self):
        def spoil(paper):
            return [] if paper[0] == "parted" else [("in", k) for k in (-HUNDRED, -5, -4, -3, -2, -1, 4, 5, HUNDRED)]
        self.all_spoiled(QUARTERS, QUARTERS_PAPER, spoil)
        both = ("parted", 3, [("in", 0), ("parted", 2, [("in", 0), ("in", 1)]), ("in", 1)])

        def none_of_two(paper):
            return [] if paper[0] == "parted" else [("in", k) for k in (-3, -2, -1, 2, 3, HUNDRED)]
        self.all_spoiled(ALWAYS * 2, both, none_of_two)

    def test_another_waking_in_one_place(self):
        def spoil(paper):
            return [] if paper[0] == "parted" else [("in", k) for k in range(4) if k != paper[1]]
        self.all_spoiled(QUARTERS, QUARTERS_PAPER, spoil)

    def test_a_part_that_does_not_lie_in_the_waking_by_a_single_turn(self):
        paper = ("parted", 4, [("in", 0), ("in", 0), ("in", 1), ("in", 1)])
        self.told([(4, 0, 2), (4, 2, 2)], paper, True)
        for plan in ([(4, 0, 1), (4, 2, 2)], [(4, 0, 2), (4, 2, 1)], [(4, 3, 2), (4, 2, 2)], [(4, 1, 2), (4, 2, 2)],
                     [(8, 0, 2), (4, 2, 2)], [(4, 0, 2), (12, 2, 2)]):
            self.told(plan, paper, False)

    def test_a_by_below_two_in_one_place(self):
        papers = {1: [[("in", 0)]], 0: [[]], -1: [[], [("in", 0)]], -2: [[], [("in", 0), ("in", 0)]]}
        for by in (1, 0, -1, -2, -HUNDRED):
            for below in papers.get(by, [[]]) + [[("in", 0), ("in", 0)]]:
                def spoil(paper):
                    return [("parted", by, list(below))]
                self.all_spoiled(ALWAYS, ("in", 0), spoil)
                self.all_spoiled(ALWAYS, ("parted", 2, [("in", 0), ("parted", 3, [("in", 0)] * 3)]), spoil)

    def test_a_by_of_one_around_a_right_paper(self):
        self.told(QUARTERS, ("parted", 1, [QUARTERS_PAPER]), False)
        self.told(QUARTERS, ("parted", 1, [("parted", 1, [QUARTERS_PAPER])]), False)

    def test_another_by_in_one_place(self):
        def spoil(paper):
            if paper[0] == "in":
                return []
            return [("parted", by, paper[2]) for by in (-2, 0, 1, 3, 4, 5, 5000, SIXTY, HUNDRED)]
        self.all_spoiled(QUARTERS, QUARTERS_PAPER, spoil)
        self.all_spoiled(ALWAYS, ("parted", 2, [("in", 0), ("parted", 2, [("in", 0), ("in", 0)])]), spoil)

    def test_more_or_fewer_papers_in_one_place(self):
        def spoil(paper):
            if paper[0] == "in":
                return []
            papers = paper[2]
            rows = ([], papers[:-1], papers[1:], papers + [papers[-1]], papers + papers, [papers[0]] + papers)
            return [("parted", paper[1], row) for row in rows]
        self.all_spoiled(QUARTERS, QUARTERS_PAPER, spoil)
        self.all_spoiled(ALWAYS, ("parted", 3, [("in", 0), ("in", 0), ("parted", 2, [("in", 0), ("in", 0)])]), spoil)

    def test_no_papers(self):
        for by in (2, 3, 5000, HUNDRED):
            self.told(ALWAYS, ("parted", by, []), False)

    def test_a_by_of_five_thousand(self):
        plan = [(5000, 0, 1), (5000, 1, 4999)]
        papers = [("in", 0)] + [("in", 1)] * 4999
        self.told(plan, ("parted", 5000, papers), True)
        self.told(plan, ("parted", 5000, papers[:-1]), False)
        self.told(plan, ("parted", 5000, papers + [("in", 1)]), False)
        self.told(plan, ("parted", 4999, papers), False)
        self.told(plan, ("parted", 5001, papers), False)
        self.told(plan, ("parted", HUNDRED, papers), False)
        self.told(plan, ("parted", 5000, papers[:-1] + [("in", 0)]), False)
        self.told(plan, ("parted", 5000, [("in", 1)] * 5000), False)

    def test_twenty_thousand_knots(self):
        below = [("in", 0)] * 140
        paper = ("parted", 141, [("parted", 140, list(below)) for number in range(141)])
        self.told(ALWAYS, paper, True)
        paper[2][140][2][139] = ("in", 1)
        self.told(ALWAYS, paper, False)

    def test_a_depth_of_forty(self):
        self.told(HALVES, comb(40, 40), True)
        self.told(HALVES, comb(40, 39), False)
        self.told(HALVES, comb(39, 39), False)
        self.told(HALVES, comb(39, 40), False)
        # Somewhat beyond forty nothing is refused.
        self.told(ALWAYS * 99, comb(99, 0), True)
        self.told(ALWAYS * 99, comb(99, 99), False)

    def test_a_plan_for_which_a_paper_is_let_by_covers(self):
        wakings = [(period, first, length) for period in (1, 2, 3, 4) for first in range(period)
                   for length in range(1, period + 1)]
        papers = papers_up_to(1, (0, 1), 4) + papers_up_to(2, (0, 1), 2)
        let_by = 0
        for one in wakings:
            for other in wakings[::3]:
                covers = all(awake([one, other], turn) for turn in range(12))
                for paper in papers:
                    if lets_by([one, other], paper):
                        let_by += 1
                        self.assertTrue(covers, (one, other, paper))
        self.assertGreater(let_by, 100)


class Measures(unittest.TestCase):
    def told(self, paper, depth, knots, names):
        kept = copy.deepcopy(paper)
        self.assertEqual(paper_depth(paper), depth)
        self.assertEqual(paper_knots(paper), knots)
        self.assertEqual(paper_names(paper), names)
        for number in (paper_depth(paper), paper_knots(paper)):
            self.assertIs(type(number), int)
        self.assertIs(type(paper_names(paper)), list)
        self.assertEqual(paper, kept)

    def test_in(self):
        for k in (0, 7, -1, HUNDRED):
            self.told(("in", k), 0, 1, [k])

    def test_parted(self):
        self.told(("parted", 2, [("in", 3), ("in", 1)]), 1, 3, [3, 1])
        self.told(("parted", 3, [("in", 0), ("in", 0), ("in", 0)]), 1, 4, [0, 0, 0])
        self.told(QUARTERS_PAPER, 2, 7, [0, 2, 1, 3])

    def test_parted_without_papers(self):
        self.told(("parted", 2, []), 1, 1, [])
        self.told(("parted", 0, []), 1, 1, [])
        self.told(("parted", 2, [("parted", 5, []), ("in", 4)]), 2, 3, [4])
        self.told(("parted", 2, [("parted", 5, []), ("parted", 5, [])]), 2, 3, [])
        self.told(("parted", 2, [("in", 1), ("parted", 2, [("parted", 2, [])])]), 3, 4, [1])

    def test_the_papers_count_not_the_by(self):
        self.told(("parted", 9, [("in", 8)]), 1, 2, [8])
        self.told(("parted", HUNDRED, [("in", 8), ("in", -9)]), 1, 3, [8, -9])
        self.told(("parted", 1, [("in", 8), ("parted", -4, [("in", 5), ("in", 6)])]), 2, 5, [8, 5, 6])

    def test_uneven_depths(self):
        deep = ("parted", 2, [("parted", 2, [("in", 5), ("in", 6)]), ("in", 7)])
        self.told(("parted", 3, [deep, ("in", 1), ("in", 2)]), 3, 8, [5, 6, 7, 1, 2])
        self.told(("parted", 3, [("in", 1), deep, ("in", 2)]), 3, 8, [1, 5, 6, 7, 2])
        self.told(("parted", 3, [("in", 1), ("in", 2), deep]), 3, 8, [1, 2, 5, 6, 7])
        self.told(("parted", 2, [("parted", 2, [("in", 1), ("in", 1)]), deep]), 3, 9, [1, 1, 5, 6, 7])

    def test_a_depth_of_forty(self):
        self.told(comb(40, 40), 40, 81, list(reversed(range(41))))
        thin = ("in", 3)
        for level in range(40):
            thin = ("parted", 2, [thin])
        self.told(thin, 40, 41, [3])
        empty = ("parted", 2, [])
        for level in range(39):
            empty = ("parted", 2, [empty])
        self.told(empty, 40, 40, [])
        self.told(comb(99, 99), 99, 199, list(reversed(range(100))))

    def test_five_thousand_papers(self):
        self.told(("parted", 5000, [("in", k) for k in range(5000)]), 1, 5001, list(range(5000)))

    def test_the_told_list_is_the_askers_own(self):
        for paper in (("in", 4), ("parted", 2, []), ("parted", 2, [("in", 3), ("in", 1)])):
            names = paper_names(paper)
            kept = list(names)
            again = paper_names(paper)
            self.assertIsNot(names, again)
            names.append(9)
            self.assertEqual(again, kept)
            self.assertEqual(paper_names(paper), kept)
        paper = ("parted", 2, [("in", 3), ("in", 1)])
        names = paper_names(paper)
        paper[2].clear()
        self.assertEqual(names, [3, 1])


if __name__ == "__main__":
    unittest.main()

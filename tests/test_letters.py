"""Points 28 to 30: the way of a letter from hand to hand, and its waits; and what points 2, 3 and 4 say of them."""

import copy
import itertools
import math
import random
import time
import unittest

from shiftmeet.errors import MeetError, NoPaper
from shiftmeet.kinds import grid_paper, grid_plan, grid_wait, pair_paper, pair_plan, pair_wait
from shiftmeet.letters import letter_way, waits_of
from shiftmeet.meets import next_together
from shiftmeet.plans import shifted
from shiftmeet.sure import meeting_paper, paper_wait

HUNDRED = 10 ** 100 - 1
SIXTY = 10 ** 60 - 1
FIFTY = 10 ** 50 - 1
FAR = (-HUNDRED, -SIXTY, SIXTY, HUNDRED)

ALWAYS = [(1, 0, 1)]
HANDS = (
    ([], 0),
    ([], 3),
    (ALWAYS, 4),
    ([(2, 0, 1)], 0),
    ([(2, 0, 1)], 1),
    ([(3, 1, 2)], -1),
    ([(4, 3, 1)], 2),
    ([(4, 0, 1), (6, 1, 2)], -3),
    ([(6, 5, 2), (5, 0, 1)], 7),
)


def is_awake(hand, turn):
    plan, shift = hand
    return any((turn - shift - first) % period < length for period, first, length in plan)


def way_by_trial(hands, turn):
    """Turn after turn, over a whole round of each two neighbours."""
    way = [turn]
    for here, there in itertools.pairwise(hands):
        whole = math.lcm(*[waking[0] for waking in here[0] + there[0]])
        turns = range(way[-1], way[-1] + whole)
        way.append(next((later for later in turns if is_awake(here, later) and is_awake(there, later)), None))
        if way[-1] is None:
            break
    return way


class LetterWay(unittest.TestCase):
    def told(self, hands, turn, way=None):
        kept = copy.deepcopy(hands)
        found = letter_way(hands, turn)
        self.assertIs(type(found), list)
        if way is not None:
            self.assertEqual(found, way, (hands, turn))
        self.assertEqual(hands, kept)
        return found

    def test_one_hand(self):
        for plan in ([], ALWAYS, [(7, 2, 1)]):
            for shift in (0, -2, HUNDRED):
                for turn in (0, 5, -1) + FAR:
                    self.told([(plan, shift)], turn, [turn])

    def test_two_hands(self):
        self.told([([(4, 3, 1)], 0), ([(6, 0, 1)], 1)], 7, [7, 7])
        self.told([([(4, 3, 1)], 0), ([(6, 0, 1)], 1)], 8, [8, 19])
        self.told([([(4, 3, 1)], 0), ([(6, 0, 1)], 2)], 8, [8, None])
        # Both clocks later by ten: so is the turn.
        self.told([([(4, 3, 1)], 10), ([(6, 0, 1)], 11)], 18, [18, 29])
        self.told([([(4, 3, 1)], -10), ([(6, 0, 1)], -9)], -2, [-2, 9])

    def test_the_first_hand_need_not_be_awake_when_it_has_the_letter(self):
        self.told([([(5, 2, 1)], 0), (ALWAYS, 0)], 3, [3, 7])
        self.told([([(5, 2, 1)], 1), (ALWAYS, 0)], 3, [3, 3])

    def test_the_shift_of_each_hand(self):
        self.told([([(5, 0, 1)], 2), ([(7, 0, 1)], 0)], 0, [0, 7])
        self.told([([(5, 0, 1)], 0), ([(7, 0, 1)], 2)], 0, [0, 30])
        self.told([([(5, 0, 1)], -2), ([(7, 0, 1)], 0)], 0, [0, 28])
        self.told([([(5, 0, 1)], 0), ([(7, 0, 1)], -2)], 0, [0, 5])

    def test_hands_that_all_meet(self):
        hands = [([(2, 0, 1)], 0), ([(3, 0, 1)], 0), ([(5, 0, 1)], 0), ([(7, 0, 1)], 0)]
        self.told(hands, 0, [0, 0, 0, 0])
        self.told(hands, 1, [1, 6, 15, 35])
        self.told(hands, -1, [-1, 0, 0, 0])
        self.told(hands, 16, [16, 18, 30, 35])

    def test_several_steps_in_one_turn(self):
        hands = [(ALWAYS, 0), ([(10, 4, 1)], 0), (ALWAYS, 9), ([(10, 3, 1)], 1), ([(10, 3, 2)], 0)]
        self.told(hands, 4, [4, 4, 4, 4, 4])
        self.told(hands, 5, [5, 14, 14, 14, 14])

    def test_a_later_hand_is_not_asked_for_an_earlier_turn(self):
        hands = [(ALWAYS, 0), ([(10, 8, 1)], 0), ([(10, 2, 1), (10, 8, 1)], 0), ([(10, 2, 1)], 0)]
        self.told(hands, 0, [0, 8, 8, 12])

    def test_a_step_that_never_comes(self):
        odd, even = ([(2, 1, 1)], 0), ([(2, 0, 1)], 0)
        self.told([odd, even], 3, [3, None])
        self.told([odd, even, even, even], 3, [3, None])
        self.told([odd, odd, even, even], 2, [2, 3, None])
        self.told([odd, odd, odd, even], 3, [3, 3, 3, None])
        self.told([odd, even, odd, even], 3, [3, None])
        self.told([odd, ([(2, 1, 1)], 1), odd], HUNDRED, [HUNDRED, None])

    def test_plans_of_no_wakings(self):
        self.told([([], 0), ([], 0)], 5, [5, None])
        self.told([([], 0), (ALWAYS, 0)], 5, [5, None])
        self.told([(ALWAYS, 0), ([], 2), (ALWAYS, 0)], 5, [5, None])
        self.told([(ALWAYS, 0), (ALWAYS, 0), ([], 2), (ALWAYS, 0)], 5, [5, 5, None])

    def test_by_trial(self):
        ends = {None: 0, True: 0}
        for hands in itertools.product(HANDS, repeat=3):
            for turn in (-8, 0, 5):
                way = way_by_trial(list(hands), turn)
                self.told(list(hands), turn, way)
                ends[None if way[-1] is None else True] += 1
        self.assertGreater(min(ends.values()), 300)
        drawn = random.Random(29)
        for number in range(300):
            hands = [drawn.choice(HANDS[2:]) for hand in range(drawn.randrange(1, 9))]
            hands = [(plan, shift + drawn.randrange(-20, 20)) for plan, shift in hands]
            turn = drawn.randrange(-50, 50)
            self.told(hands, turn, way_by_trial(hands, turn))

    def test_great_shifts_and_turns(self):
        hands = [([(2, 0, 1)], 0), ([(3, 0, 1)], 0), ([(5, 0, 1)], 0), ([(7, 0, 1)], 0)]
        for by in FAR:
            moved = [(plan, by) for plan, shift in hands]
            self.told(moved, by, [by, by, by, by])
            self.told(moved, by + 1, [by + 1, by + 6, by + 15, by + 35])
            # Each shift by itself may go round by the plan's period without end.
            turned = [(plan, by * plan[0][0]) for plan, shift in hands]
            self.told(turned, 16, [16, 18, 30, 35])

    def test_great_plans(self):
        one, other = [(HUNDRED, 5, 1)], [(HUNDRED - 1, 0, 1)]
        # Three turns behind the other at first, the one is a turn later by it in each round: all but three are needed.
        end = 5 + HUNDRED * (HUNDRED - 1 - 3)
        self.told([(one, 0), (other, 5 - 3), (one, 0)], 6, [6, end, end])
        drawn = random.Random(100)
        plans = ([(HUNDRED, 17, HUNDRED // 3)], [(SIXTY, 0, SIXTY // 2), (7, 2, 1)], [(HUNDRED - 2, 9, HUNDRED // 5)])
        for number in range(30):
            hands = [(plans[k % 3], drawn.randrange(-HUNDRED, HUNDRED)) for k in range(7)]
            turn = drawn.randrange(-HUNDRED, HUNDRED)
            way = self.told(hands, turn)
            self.assertEqual((len(way), way[0]), (7, turn))
            for here, there, begin, end in zip(hands, hands[1:], way, way[1:]):
                one, other = shifted(here[0], here[1]), shifted(there[0], there[1])
                self.assertEqual(end, next_together(one, other, 0, begin))
                self.assertTrue(is_awake(here, end) and is_awake(there, end))

    def test_three_hundred_hands(self):
        hands = [([(7, 0, 1), (11, 3, 2)], k * k) for k in range(300)]
        begin = time.perf_counter()
        way = self.told(hands, 5, way_by_trial(hands, 5))
        self.assertEqual(len(way), 300)
        great = [([(HUNDRED - k, k, 1), (SIXTY - k, 0, 1)], -k * SIXTY) for k in range(300)]
        self.assertEqual(len(self.told(great, HUNDRED)), 300)
        self.assertLess(time.perf_counter() - begin, 20)

    def test_the_told_list_is_the_askers_own(self):
        hands = [(ALWAYS, 0), ([(5, 1, 1)], 0)]
        way = letter_way(hands, 3)
        again = letter_way(hands, 3)
        way.append(9)
        self.assertEqual(again, [3, 6])
        hands[1][0].clear()
        hands.clear()
        self.assertEqual(again, [3, 6])
        self.assertEqual(letter_way([(ALWAYS, 0)], 3), [3])


class WaitsOf(unittest.TestCase):
    def told(self, hands, papers, waits):
        kept = copy.deepcopy((hands, papers))
        self.assertEqual(waits_of(hands, papers), waits)
        self.assertIs(type(waits_of(hands, papers)), int)
        self.assertEqual((hands, papers), kept)

    def refused(self, hands, papers):
        kept = copy.deepcopy((hands, papers))
        with self.assertRaises(MeetError, msg=(hands, papers)) as caught:
            waits_of(hands, papers)
        self.assertIs(type(caught.exception), NoPaper)
        self.assertEqual((hands, papers), kept)

    def within(self, hands, papers, turns):
        waits = waits_of(hands, papers)
        for turn in turns:
            way = letter_way(hands, turn)
            self.assertEqual(len(way), len(hands))
            self.assertLessEqual(way[-1] - turn, waits, (hands, turn))

    def test_one_hand(self):
        for plan in ([], ALWAYS, [(7, 2, 1)]):
            for shift in (0, -5, HUNDRED):
                self.told([(plan, shift)], [], 0)
                self.refused([(plan, shift)], [("in", 0)])
                self.refused([(plan, shift)], [("in", 0), ("in", 0)])

    def test_the_sum_of_the_waits(self):
        two, three, five = [(2, 0, 1)], [(3, 0, 1)], [(5, 0, 1)]
        hands = [(two, 0), (three, 9), (five, -2), (two, HUNDRED)]
        self.told(hands[:2], [("in", 0)], 6)
        self.told(hands[:3], [("in", 0), ("in", 0)], 21)
        self.told(hands, [("in", 0), ("in", 0), ("in", 0)], 31)
        self.told(hands[1:], [("in", 0), ("in", 0)], 25)
        # Each step counts, the same two hands once more too.
        self.told([hands[0], hands[1]] * 3, [("in", 0)] * 5, 30)

    def test_each_paper_is_of_the_earlier_plan_and_the_later_one(self):
        three, two = [(3, 0, 1)], [(2, 0, 1), (4, 0, 2), (9, 0, 1)]
        self.told([(three, 1), (two, 5)], [("in", 1)], 12)
        self.told([(two, 1), (three, 5)], [("in", 1)], 12)
        self.refused([(three, 1), (two, 5)], [("in", 2)])
        pair, trio = [(2, 0, 1), (7, 0, 1)], [(3, 0, 1), (2, 0, 1), (11, 0, 1)]
        # The number 1 is the first waking of the one and the second one of the other, whichever comes first.
        self.refused([(pair, 0), (trio, 0)], [("in", 1)])
        self.told([(pair, 0), (trio, 0)], [("in", 2)], 22)
        self.told([(trio, 0), (pair, 0)], [("in", 1)], 21)
        self.refused([(trio, 0), (pair, 0)], [("in", 2)])
        self.told([(pair, 0), (trio, 0), (pair, 0)], [("in", 2), ("in", 1)], 43)
        self.refused([(pair, 0), (trio, 0), (pair, 0)], [("in", 1), ("in", 2)])

    def test_the_shifts_do_not_matter(self):
        hands = [(pair_plan(2, 3), 0), (grid_plan(2), 0), (ALWAYS, 0)]
        papers = [meeting_paper(hands[0][0], hands[1][0]), ("in", 0)]
        waits = waits_of(hands, papers)
        for shift in (-1, 1, 5) + FAR:
            self.told([(plan, shift * k) for k, (plan, old) in enumerate(hands)], papers, waits)

    def test_papers_that_are_parted(self):
        one, other = [(2, 0, 1), (2, 1, 1)], [(6, 0, 1)]
        paper = ("parted", 2, [("in", 0), ("in", 1)])
        self.told([(one, 3), (other, 0), (one, 0)], [paper, paper], 12)
        self.refused([(one, 3), (other, 0), (one, 0)], [paper, ("parted", 2, [("in", 1), ("in", 0)])])
        self.refused([(one, 3), (other, 0), (one, 0)], [("parted", 2, [("in", 1), ("in", 0)]), paper])

    def test_a_paper_that_is_not_let_by(self):
        two, three = ([(2, 0, 1)], 0), ([(3, 0, 1)], 0)
        self.told([two, three, two], [("in", 0), ("in", 0)], 12)
        for wrong in (("in", 1), ("in", -1), ("in", HUNDRED), ("parted", 2, []), ("parted", 1, [("in", 0)]),
                      ("parted", 2, [("in", 0)]), ("parted", 2, [("in", 0), ("in", 1)])):
            self.refused([two, three, two], [wrong, ("in", 0)])
            self.refused([two, three, two], [("in", 0), wrong])
            self.refused([two, three, two], [wrong, wrong])
        self.refused([two, two], [("in", 0)])
        self.refused([two, ([], 0)], [("in", 0)])
        self.refused([([], 0), two], [("in", 0)])

    def test_too_few_and_too_many_papers(self):
        hands = [(ALWAYS, 0), (ALWAYS, 1), (ALWAYS, 2), (ALWAYS, 3)]
        for many in range(8):
            if many == 3:
                self.told(hands, [("in", 0)] * many, 3)
            else:
                self.refused(hands, [("in", 0)] * many)
        self.refused(hands[:2], [])
        self.refused(hands[:2], [("in", 0)] * 2)

    def test_the_way_ends_within_the_waits(self):
        drawn = random.Random(30)
        primes = (2, 3, 5, 7, 11)
        for number in range(40):
            pairs = [tuple(drawn.sample(primes, 2)) for hand in range(drawn.randrange(1, 7))]
            hands = [(pair_plan(one, other), drawn.randrange(-99, 99)) for one, other in pairs]
            papers = [pair_paper(one, other) for one, other in itertools.pairwise(pairs)]
            told = sum(pair_wait(one, other) for one, other in itertools.pairwise(pairs))
            self.assertLessEqual(waits_of(hands, papers), told)
            self.within(hands, papers, range(-30, 30, 7))

    def test_the_way_of_papers_found_ends_within_the_waits(self):
        plans = [pair_plan(2, 3), grid_plan(3), grid_plan(2), [(5, 0, 3)], [(5, 1, 3)], ALWAYS, grid_plan(4)]
        drawn = random.Random(31)
        for number in range(20):
            hands = [(plan, drawn.choice((drawn.randrange(-30, 30), drawn.choice(FAR)))) for plan in plans]
            papers = [meeting_paper(here[0], there[0]) for here, there in itertools.pairwise(hands)]
            waits = sum(paper_wait(here[0], there[0], paper) for here, there, paper in zip(hands, hands[1:], papers))
            self.told(hands, papers, waits)
            self.within(hands, papers, [drawn.randrange(-99, 99), drawn.choice(FAR)])

    def test_great_grids(self):
        drawn = random.Random(32)
        numbers = [FIFTY, 10 ** 49, 6 ** 60, 12 ** 40, 1, FIFTY]
        hands = [(grid_plan(number), drawn.randrange(-HUNDRED, HUNDRED)) for number in numbers]
        papers = [grid_paper(one, other) for one, other in itertools.pairwise(numbers)]
        told = sum(grid_wait(one, other) for one, other in itertools.pairwise(numbers))
        self.assertLessEqual(waits_of(hands, papers), told)
        self.within(hands, papers, FAR)


if __name__ == "__main__":
    unittest.main()

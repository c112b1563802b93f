"""Points 1 and 4: the promise of the whole, asked at a desk; and what points 2 and 3 say of every function."""

import copy
import itertools
import math
import random
import re
import time
import unittest

from shiftmeet import covers, errors, hits, kinds, letters, meets, papers, plans, shifts, sure, texts, wholes
from shiftmeet.desk import Desk

HUNDRED = 10 ** 100 - 1
SIXTY = 10 ** 60 - 1
FIFTY = 10 ** 50 - 1
FAR = (-HUNDRED, -SIXTY, SIXTY, HUNDRED)

SURE = re.compile(r"sure within ([1-9][0-9]*) by (.+)", re.ASCII)
LONELY = re.compile(r"lonely at (0|[1-9][0-9]*)", re.ASCII)
WORST = re.compile(r"(0|[1-9][0-9]*) at (0|[1-9][0-9]*) from (0|[1-9][0-9]*)", re.ASCII)

# Plans of short rounds: some sure with one another, some not.
SHORT = (
    "never", "1:0", "2:0", "2:1", "2:0 2:1", "3:0", "3:1:2", "4:0:2", "4:3:3", "5:0:3", "6:0:1 6:3", "2:0 3:0",
    "3:0 2:1", "4:0 6:1:2", "3:0 9:0:3", "2:0 4:0:2", "12:0:7", "8:1:5 12:0", "5:2 2:0", "6:5:2 10:0:4",
)

PRIMES = (2, 3, 101, 999983, 100000000003, 999999999961, 999999999989)
NUMBERS = (1, 2, 6, 60, 10 ** 11, 10 ** 12 - 1, 6 ** 60, 10 ** 49, FIFTY // 9, FIFTY)


def is_awake(text, turn):
    """Whether the turn is awake by the plan that the text writes."""
    if text == "never":
        return False
    for word in text.split(" "):
        numbers = [int(part) for part in word.split(":")]
        if (turn - numbers[1]) % numbers[0] < (numbers[2] if len(numbers) == 3 else 1):
            return True
    return False


def drawn_plan(drawn):
    wakings = []
    for number in range(drawn.randrange(1, 4)):
        period = drawn.choice((4, 6, 8, 12, 24, 36))
        wakings.append(f"{period}:{drawn.randrange(period)}:{drawn.randrange(1, period // 2)}")
    return " ".join(wakings)


def drawn_places(drawn, many):
    """Shifts and turns, some small, some great, some below 0."""
    for number in range(many):
        for greatest in (30, SIXTY, HUNDRED):
            yield drawn.randrange(-greatest, greatest + 1), drawn.randrange(-greatest, greatest + 1)


class TheWhole(unittest.TestCase):
    def settled(self, desk, names, drawn):
        """Whether the two plans are sure; either answer is tried."""
        answer = desk.told("sure " + names)
        self.assertEqual(desk.told("sure " + names), answer)
        found = SURE.fullmatch(answer)
        if found is not None:
            wait, paper = int(found[1]), found[2]
            self.assertEqual(desk.told(f"check {names} {paper}"), f"right within {wait}")
            for shift, turn in drawn_places(drawn, 2):
                self.within(desk, names, shift, turn, wait)
            return True
        lonely = LONELY.fullmatch(answer)
        self.assertIsNotNone(lonely, answer)
        for turn in (0, 1, -1, drawn.randrange(99)) + FAR:
            self.assertEqual(desk.told(f"meet {names} {lonely[1]} {turn}"), "never")
        for shift in range(int(lonely[1])):
            self.assertNotEqual(desk.told(f"meet {names} {shift} 0"), "never")
        return False

    def within(self, desk, names, shift, turn, wait):
        answer = desk.told(f"meet {names} {shift} {turn}")
        self.assertNotEqual(answer, "never", (names, shift, turn))
        self.assertTrue(0 <= int(answer) - turn < wait, (names, shift, turn))

    def worst(self, desk, names, is_sure):
        answer = desk.told("worst " + names)
        if not is_sure:
            self.assertEqual(answer, "lonely")
            return
        wait, shift, turn = [int(number) for number in WORST.fullmatch(answer).groups()]
        self.assertEqual(desk.told(f"meet {names} {shift} {turn}"), str(turn + wait))
        self.assertLess(wait, int(SURE.fullmatch(desk.told("sure " + names))[1]))

    def two(self, one, other, drawn):
        desk = Desk()
        self.assertEqual(desk.told("plan one " + one), "kept")
        self.assertEqual(desk.told("plan other " + other), "kept")
        found = self.settled(desk, "one other", drawn)
        # Told the other way round the shifts are less than 0 in the place of above: sure plans stay so.
        self.assertIs(self.settled(desk, "other one", drawn), found, (one, other))
        self.worst(desk, "one other", found)
        self.worst(desk, "other one", found)
        return found

    def test_short_rounds(self):
        drawn = random.Random(4)
        answers = {True: 0, False: 0}
        for one, other in itertools.combinations_with_replacement(SHORT, 2):
            answers[self.two(one, other, drawn)] += 1
        self.assertGreater(min(answers.values()), 25)

    def test_drawn_plans_of_short_rounds(self):
        drawn = random.Random(44)
        answers = {True: 0, False: 0}
        for number in range(300):
            one, other = drawn_plan(drawn), drawn_plan(drawn)
            desk = Desk()
            desk.told("plan one " + one)
            desk.told("plan other " + other)
            answers[self.settled(desk, "one other", drawn)] += 1
        self.assertGreater(min(answers.values()), 40)

    def test_the_next_turn_together_is_the_least_one(self):
        drawn = random.Random(45)
        for one, other in itertools.product(SHORT, repeat=2):
            desk = Desk()
            desk.told("plan one " + one)
            desk.told("plan other " + other)
            shift, turn = drawn.randrange(-40, 40), drawn.randrange(-40, 40)
            answer = desk.told(f"meet one other {shift} {turn}")
            end = turn + 720 if answer == "never" else int(answer)
            both = [is_awake(one, later) and is_awake(other, later - shift) for later in range(turn, end + 1)]
            self.assertEqual(True in both, answer != "never")
            self.assertNotIn(True, both[:-1])

    def test_great_pairs_meet_within_the_told_wait(self):
        drawn = random.Random(46)
        pairs = list(itertools.permutations(PRIMES, 2))
        for ones, others in [(drawn.choice(pairs), drawn.choice(pairs)) for number in range(30)]:
            desk = Desk()
            desk.told("pair one {} {}".format(*ones))
            desk.told("pair other {} {}".format(*others))
            wait = kinds.pair_wait(ones, others)
            paper = texts.shown_paper(kinds.pair_paper(ones, others))
            found = re.fullmatch(r"right within ([0-9]+)", desk.told(f"check one other {paper}"))
            self.assertLessEqual(int(found[1]), wait)
            for shift, turn in drawn_places(drawn, 3):
                self.within(desk, "one other", shift, turn, wait)

    def test_great_grids_meet_within_the_told_wait(self):
        drawn = random.Random(47)
        for one, other in itertools.product(NUMBERS, repeat=2):
            desk = Desk()
            desk.told(f"grid one {one}")
            desk.told(f"grid other {other}")
            wait = kinds.grid_wait(one, other)
            paper = texts.shown_paper(kinds.grid_paper(one, other))
            found = re.fullmatch(r"right within ([0-9]+)", desk.told(f"check one other {paper}"))
            self.assertLessEqual(int(found[1]), wait)
            for shift, turn in drawn_places(drawn, 2):
                self.within(desk, "one other", shift, turn, wait)

    def test_never_both(self):
        # No paper of small ones is let by where there is a lonely shift.
        small = [("in", k) for k in range(4)]
        small += [("parted", 2, list(below)) for below in itertools.product(small, repeat=2)]
        small += [("parted", 3, list(below)) for below in itertools.product(small[:4], repeat=3)]
        desk = Desk()
        for number, text in enumerate(SHORT):
            desk.told("plan " + "abcdefghijklmnopqrst"[number] + " " + text)
        let_by = 0
        for one, other in itertools.product("abcdefghijklmnopqrst", repeat=2):
            lonely = LONELY.fullmatch(desk.told(f"sure {one} {other}")) is not None
            for paper in small[::5]:
                answer = desk.told(f"check {one} {other} {texts.shown_paper(paper)}")
                let_by += answer != "wrong"
                self.assertFalse(lonely and answer != "wrong", (one, other, paper))
        self.assertGreater(let_by, 100)

    def test_a_letter_is_with_the_last_hand_within_the_waits(self):
        drawn = random.Random(48)
        for number in range(20):
            numbers = [drawn.choice(NUMBERS) for hand in range(drawn.randrange(1, 8))]
            hands = [(kinds.grid_plan(hand), drawn.randrange(-HUNDRED, HUNDRED)) for hand in numbers]
            steps = [kinds.grid_paper(one, other) for one, other in itertools.pairwise(numbers)]
            turn = drawn.randrange(-HUNDRED, HUNDRED)
            way = letters.letter_way(hands, turn)
            self.assertEqual(len(way), len(hands))
            self.assertEqual(way, sorted(way))
            self.assertLessEqual(way[-1] - turn, letters.waits_of(hands, steps))

    def test_rows_of_great_plans_in_good_time(self):
        begin = time.perf_counter()
        desk = Desk()
        for name, rest in (("one", 7), ("other", 8)):
            plan = " ".join(f"{HUNDRED - 30 * k - rest}:{SIXTY + k}:{SIXTY}" for k in range(12))
            desk.told(f"plan {name} {plan}")
        for shift, turn in drawn_places(random.Random(49), 3):
            answer = desk.told(f"meet one other {shift} {turn}")
            self.assertTrue(answer == "never" or int(answer) >= turn)
        self.assertLess(time.perf_counter() - begin, 20)


class EveryFunction(unittest.TestCase):
    def test_what_is_handed_in_is_not_changed(self):
        one, other = [(4, 1, 3), (2, 0, 1)], [(6, 0, 2), (1, 0, 1)]
        paper = ("parted", 2, [("in", 1), ("parted", 2, [("in", 3), ("in", 1)])])
        hands = [(one, 3), (other, -1), (one, 0)]
        calls = (
            (wholes.least_round, [4, 6]), (plans.plan_of, one), (plans.awake, one, 3), (plans.next_awake, one, 3),
            (plans.shifted, one, 5), (plans.plan_round, one), (plans.times_awake, one, 0, 9), (covers.hole, one),
            (covers.cover_paper, one), (papers.right_for, one, (1, 0), paper), (papers.lets_by, one, paper),
            (papers.paper_depth, paper), (papers.paper_knots, paper), (papers.paper_names, paper),
            (shifts.shifts, one, other), (shifts.pair_of, one, other, 3), (meets.together, one, other, 1, 2),
            (meets.next_together, one, other, 1, 2), (sure.lonely_shift, one, other), (sure.meeting_paper, one, other),
            (sure.lets_meet, one, other, paper), (sure.paper_wait, one, other, paper), (sure.worst, one, other),
            (kinds.pair_wait, (2, 3), (3, 5)), (kinds.pair_paper, (2, 3), (3, 5)), (letters.letter_way, hands, 3),
            (letters.waits_of, hands, [paper, ("in", 2)]), (texts.shown_plan, one), (texts.shown_paper, paper),
        )
        for call in calls:
            kept = copy.deepcopy(call[1:])
            told = call[0](*call[1:])
            self.assertEqual(call[1:], kept, call[0].__name__)
            # Asked again, the answer is the same.
            self.assertEqual(call[0](*call[1:]), told, call[0].__name__)

    def test_the_refusals_of_every_function(self):
        deep = "by 2 (" * 41 + ")" * 41
        calls = (
            (errors.NoPlan, plans.plan_of, [(0, 0, 1)]), (errors.TooMany, plans.times_awake, [], 0, 5001),
            (errors.TooMany, covers.hole, [(5001, 0, 1)]), (errors.TooMany, covers.cover_paper, [(5001, 0, 1)]),
            (errors.TooMany, sure.lonely_shift, [(5001, 0, 1)], [(5001, 0, 1)]),
            (errors.TooMany, sure.meeting_paper, [(5001, 0, 1)], [(5001, 0, 1)]),
            (errors.NoPaper, sure.paper_wait, [(2, 0, 1)], [(2, 0, 1)], ("in", 0)),
            (errors.TooMany, sure.worst, [(20001, 0, 1)], []), (errors.NoPrimes, kinds.pair_plan, 2, 4),
            (errors.NoPlan, kinds.grid_plan, 0), (errors.NoPaper, letters.waits_of, [([], 0)], [("in", 0)]),
            (errors.NoText, texts.read_plan, ""), (errors.NoPlan, texts.read_plan, "0:0"),
            (errors.NoText, texts.read_paper, ""), (errors.NoText, texts.read_paper, deep),
            (errors.NoRow, Desk().told, ""), (errors.NoName, Desk().told, "awake a 0"),
        )
        for call in calls:
            with self.assertRaises(errors.MeetError) as caught:
                call[1](*call[2:])
            self.assertIs(type(caught.exception), call[0])
            self.assertEqual(call[0].__bases__, (errors.MeetError,))
            self.assertIsInstance(caught.exception, ValueError)

    def test_first_hits_and_meetings_agree(self):
        # The first beginning of the one at which the other is awake is the next turn together of single turns.
        drawn = random.Random(6)
        for number in range(200):
            period, whole = drawn.randrange(1, HUNDRED), drawn.randrange(1, HUNDRED)
            many, shift = drawn.randrange(1, whole + 1), drawn.randrange(-HUNDRED, HUNDRED)
            hit = hits.first_hit(-shift, period, whole, many)
            turn = meets.next_together([(period, 0, 1)], [(whole, 0, many)], shift, 0)
            self.assertEqual(turn, None if hit is None else hit * period)
            if hit is None:
                self.assertGreater(math.gcd(period, whole), many)


if __name__ == "__main__":
    unittest.main()

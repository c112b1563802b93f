"""Covers: the hole of a plan, and a paper for a plan that has none."""

from shiftmeet.errors import TooMany
from shiftmeet.papers import ALL_TURNS, lies_in, part_of_part
from shiftmeet.plans import awake, plan_round
from shiftmeet.wholes import divisor, least_part

LONGEST_ROUND = 5000


def hole(plan):
    whole = plan_round(plan)
    if whole > LONGEST_ROUND:
        raise TooMany("the plan's round is above five thousand")
    for turn in range(whole):
        if not awake(plan, turn):
            return turn
    return None


def cover_paper(plan):
    if hole(plan) is not None:
        return None
    return paper_of_part(plan, ALL_TURNS, list(range(len(plan))))


def paper_of_part(plan, part, near):
    # A waking that a part does not meet is met by no part of that part either, so it need not be handed down.
    met = [k for k in near if meets(plan[k], part)]
    for k in met:
        if lies_in(plan[k], part):
            return ("in", k)
    by = parting(plan[met[0]], part)
    papers = [paper_of_part(plan, part_of_part(part, by, number), met) for number in range(by)]
    return ("parted", by, papers)


def meets(waking, part):
    return (part[1] - waking[1]) % divisor(part[0], waking[0]) < waking[2]


def parting(waking, part):
    # A waking that a part meets without lying in it has a period that does not divide the step: more than 1 is left.
    return least_part(waking[0] // divisor(part[0], waking[0]))

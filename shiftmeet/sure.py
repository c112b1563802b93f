"""Settled: whether two plans meet at every shift, by which paper, and how long they wait at the longest."""

from shiftmeet.covers import cover_paper, hole
from shiftmeet.errors import NoPaper, TooMany
from shiftmeet.papers import lets_by, paper_names
from shiftmeet.plans import awake, plan_round
from shiftmeet.shifts import pair_of, shifts
from shiftmeet.wholes import least_round

MOST_TRIED = 20000


def lonely_shift(one, other):
    return hole(shifts(one, other))


def meeting_paper(one, other):
    return cover_paper(shifts(one, other))


def lets_meet(one, other, paper):
    return lets_by(shifts(one, other), paper)


def paper_wait(one, other, paper):
    if not lets_meet(one, other, paper):
        raise NoPaper("the paper is not let by for the two plans")
    # A paper may name one pair many thousand times.
    return max([pair_round(one, other, k) for k in sorted(set(paper_names(paper)))])


def pair_round(one, other, k):
    pair = pair_of(one, other, k)
    return least_round([one[pair[0]][0], other[pair[1]][0]])


def worst(one, other):
    turns = plan_round(one + other)
    ways = plan_round(shifts(one, other))
    if ways * turns > MOST_TRIED:
        raise TooMany("there are more than twenty thousand shifts and turns to try")
    if lonely_shift(one, other) is not None:
        return None
    ones = [awake(one, turn) for turn in range(turns)]
    others = [awake(other, turn) for turn in range(turns)]
    found = (0, 0, 0)
    # The round of the shifts is the greatest divisor of both plans' rounds. At a shift that is later by it the turns
    # together are the same ones, only later or earlier, so no greater wait is beyond.
    for shift in range(ways):
        both = [ones[turn] and others[(turn - shift) % turns] for turn in range(turns)]
        longest = longest_wait(both)
        if longest[0] > found[0]:
            found = (longest[0], shift, longest[1])
    return found


def longest_wait(both):
    # Behind the round's last turn the first one comes again, and its wait is as long as it is to the first meeting.
    wait = both.index(True)
    found = (0, 0)
    for turn in range(len(both) - 1, -1, -1):
        wait = 0 if both[turn] else wait + 1
        # Of like waits the one met last, walking down, has the least turn.
        if wait >= found[0]:
            found = (wait, turn)
    return found

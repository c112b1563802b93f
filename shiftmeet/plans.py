"""Wakings and plans: which turns are awake, and when a plan comes again."""

from shiftmeet.errors import NoPlan, TooMany
from shiftmeet.wholes import least_round

MOST_TURNS = 5000


def plan_of(rows):
    for period, first, length in rows:
        if not is_waking(period, first, length):
            raise NoPlan("a row of the plan is no waking")
    return list(rows)


def is_waking(period, first, length):
    return period >= 1 and 0 <= first < period and 1 <= length <= period


def awake(plan, turn):
    for period, first, length in plan:
        if (turn - first) % period < length:
            return True
    return False


def next_awake(plan, turn):
    turns = []
    for period, first, length in plan:
        rest = (turn - first) % period
        turns.append(turn if rest < length else turn + period - rest)
    return min(turns, default=None)


def shifted(plan, by):
    return [(period, (first + by) % period, length) for period, first, length in plan]


def plan_round(plan):
    return least_round([period for period, first, length in plan])


def times_awake(plan, begin, end):
    if end - begin > MOST_TURNS:
        raise TooMany("there are more than five thousand turns to count")
    return len([turn for turn in range(begin, end) if awake(plan, turn)])

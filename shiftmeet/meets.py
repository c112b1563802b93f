"""Meetings: whether two plans at a shift are awake together in a turn, and the next such turn."""

from shiftmeet.hits import first_hit
from shiftmeet.plans import awake, shifted


def together(one, other, shift, turn):
    return awake(one, turn) and awake(other, turn - shift)


def next_together(one, other, shift, turn):
    if together(one, other, shift, turn):
        return turn
    # In the least turn together behind this one, one of both has just woken: else the turn ahead of it would do.
    turns = []
    for waking in one:
        for beside in shifted(other, shift):
            turns.append(next_begin(waking, beside, turn))
            turns.append(next_begin(beside, waking, turn))
    return min([found for found in turns if found is not None], default=None)


def next_begin(waking, beside, turn):
    begin = turn + (waking[1] - turn) % waking[0]
    rounds = first_hit(begin - beside[1], waking[0], beside[0], beside[2])
    if rounds is None:
        return None
    return begin + waking[0] * rounds

"""Shifts: at which shifts two wakings, or two plans, are awake together in some turn."""

from shiftmeet.wholes import divisor


def shifts_of_two(one, other):
    # Turns of the one and of the other come together just where they leave the same rest by this divisor. So the
    # shifts are the one's awake turns less the other's by it: from the one's first less the other's last on, in a row.
    common = divisor(one[0], other[0])
    first = (one[1] - other[1] - (other[2] - 1)) % common
    return (common, first, min(common, one[2] + other[2] - 1))


def shifts(one, other):
    plan = []
    for waking in one:
        plan.extend([shifts_of_two(waking, beside) for beside in other])
    return plan


def pair_of(one, other, k):
    return (k // len(other), k % len(other))

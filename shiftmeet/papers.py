"""Papers: parts of all turns that lie in wakings, and the walk by which a paper is let by."""

from shiftmeet.wholes import divisor

ALL_TURNS = (1, 0)


def lies_in(waking, part):
    period = waking[0]
    length = waking[2]
    # Divided by the period, the part leaves every rest that agrees with its own by this divisor. The turns asleep are
    # period - length ones in a row from first + length on, so the least of these rests from there on settles it.
    common = divisor(part[0], period)
    return (part[1] - waking[1] - length) % common >= period - length


def right_for(plan, part, paper):
    if paper[0] == "in":
        # Python would count a number below 0 from the plan's end.
        return 0 <= paper[1] < len(plan) and lies_in(plan[paper[1]], part)
    by = paper[1]
    if by < 2 or len(paper[2]) != by:
        return False
    for number, below in enumerate(paper[2]):
        if not right_for(plan, part_of_part(part, by, number), below):
            return False
    return True


def part_of_part(part, by, number):
    return (part[0] * by, part[1] + part[0] * number)


def lets_by(plan, paper):
    return right_for(plan, ALL_TURNS, paper)


def paper_depth(paper):
    if paper[0] == "in":
        return 0
    return 1 + max([paper_depth(below) for below in paper[2]], default=0)


def paper_knots(paper):
    if paper[0] == "in":
        return 1
    return 1 + sum([paper_knots(below) for below in paper[2]])


def paper_names(paper):
    if paper[0] == "in":
        return [paper[1]]
    names = []
    for below in paper[2]:
        names.extend(paper_names(below))
    return names

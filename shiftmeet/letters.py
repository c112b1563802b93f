"""Letters: the way of a letter from hand to hand, and the waits of its steps."""

from shiftmeet.errors import NoPaper
from shiftmeet.meets import next_together
from shiftmeet.plans import shifted
from shiftmeet.sure import paper_wait


def letter_way(hands, turn):
    way = [turn]
    for here, there in zip(hands, hands[1:]):
        turn = next_together(shifted(here[0], here[1]), there[0], there[1], turn)
        way.append(turn)
        if turn is None:
            break
    return way


def waits_of(hands, papers):
    if len(papers) != len(hands) - 1:
        raise NoPaper("there are not as many papers as neighbours")
    # Shifts do not matter here: a paper that is let by holds at every shift.
    return sum([paper_wait(here[0], there[0], paper) for here, there, paper in zip(hands, hands[1:], papers)])

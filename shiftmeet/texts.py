"""Texts: plans and papers written as rows of signs, and read again."""

from shiftmeet.errors import NoText
from shiftmeet.plans import plan_of

FIGURES = "0123456789"
MOST_FIGURES = 100
MOST_WAKINGS = 12
MOST_DEPTH = 40


def shown_plan(plan):
    if len(plan) == 0:
        return "never"
    return " ".join([shown_waking(waking) for waking in plan])


def shown_waking(waking):
    numbers = waking[:2] if waking[2] == 1 else waking
    return ":".join([str(number) for number in numbers])


def read_plan(text):
    if text == "never":
        return []
    words = text.split(" ")
    if len(words) > MOST_WAKINGS:
        raise NoText("the plan has more than twelve wakings")
    # All wakings are read ahead of the look whether they are wakings: NoText comes ahead of NoPlan.
    return plan_of([read_waking(word) for word in words])


def read_waking(word):
    numbers = [read_number(part) for part in word.split(":")]
    if len(numbers) == 2:
        numbers.append(1)
    if len(numbers) != 3:
        raise NoText("a waking is written by two or three numbers")
    return tuple(numbers)


def read_number(text):
    if not is_figures(text, MOST_FIGURES):
        raise NoText("there are no figures, or too many, where a number ought to be")
    return int(text)


def is_figures(text, most):
    if len(text) < 1 or len(text) > most:
        return False
    if text[0] == "0" and len(text) > 1:
        return False
    # Python's own isdigit takes signs that are none of 0 to 9, too.
    return all([sign in FIGURES for sign in text])


def shown_paper(paper):
    number = paper[1]
    if paper[0] == "in":
        return f"in {number}"
    papers = ", ".join([shown_paper(below) for below in paper[2]])
    return f"by {number} ({papers})"


def read_paper(text):
    reader = PaperReader(text)
    paper = reader.next_paper(0)
    if reader.place != len(text):
        raise NoText("there is something behind the paper")
    return paper


class PaperReader:
    def __init__(self, text):
        self.text = text
        self.place = 0

    def next_paper(self, above):
        if self.passes("in "):
            return ("in", self.next_number())
        # Refused here, a text of many thousand levels never leads down them.
        if above == MOST_DEPTH:
            raise NoText("the paper is deeper than forty")
        self.needs("by ")
        by = self.next_number()
        self.needs(" (")
        return ("parted", by, self.next_papers(above + 1))

    def next_papers(self, above):
        if self.passes(")"):
            return []
        papers = [self.next_paper(above)]
        while self.passes(", "):
            papers.append(self.next_paper(above))
        self.needs(")")
        return papers

    def next_number(self):
        begin = self.place
        while self.place < len(self.text) and self.text[self.place] in FIGURES:
            self.place += 1
        return read_number(self.text[begin:self.place])

    def needs(self, signs):
        if not self.passes(signs):
            raise NoText("the text writes no paper")

    def passes(self, signs):
        if not self.text.startswith(signs, self.place):
            return False
        self.place += len(signs)
        return True

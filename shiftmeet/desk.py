"""The desk: it keeps plans by names, is told rows and answers each by a text."""

from shiftmeet.errors import NoName, NoPaper, NoRow
from shiftmeet.kinds import grid_plan, pair_plan
from shiftmeet.meets import next_together
from shiftmeet.plans import next_awake
from shiftmeet.sure import lonely_shift, meeting_paper, paper_wait, worst
from shiftmeet.texts import MOST_FIGURES, is_figures, read_paper, read_plan, shown_paper

LETTERS = "abcdefghijklmnopqrstuvwxyz"
MOST_LETTERS = 8
PRIME_FIGURES = 12
GRID_FIGURES = 50

# What stands behind the first word of a row, in its order.
FORMS = {
    "plan": ("name", "text"),
    "pair": ("name", "prime", "prime"),
    "grid": ("name", "number"),
    "awake": ("name", "turn"),
    "meet": ("name", "name", "turn", "turn"),
    "sure": ("name", "name"),
    "worst": ("name", "name"),
    "check": ("name", "name", "text"),
}


class Desk:
    def __init__(self):
        self.plans = {}

    def told(self, row):
        words = words_of(row)
        if words[0] in ("plan", "pair", "grid"):
            self.plans[words[1]] = told_plan(words)
            return "kept"
        if words[0] == "awake":
            return turn_answer(next_awake(self.plan_by(words[1]), int(words[2])))
        # Of the refusals NoText comes ahead of NoName, so the paper is read ahead of a look for the names.
        paper = read_paper(words[3]) if words[0] == "check" else None
        one = self.plan_by(words[1])
        other = self.plan_by(words[2])
        if words[0] == "meet":
            return turn_answer(next_together(one, other, int(words[3]), int(words[4])))
        if words[0] == "sure":
            return sure_answer(one, other)
        if words[0] == "worst":
            return worst_answer(one, other)
        return check_answer(one, other, paper)

    def plan_by(self, name):
        if name not in self.plans:
            raise NoName("no plan is kept by the name")
        return self.plans[name]


def words_of(row):
    if not isinstance(row, str):
        raise NoRow("what is told is no text")
    form = FORMS.get(row.partition(" ")[0])
    if form is None:
        raise NoRow("the row begins with no word of the desk")
    # The last word takes all that is left: a plan or a paper has blanks of its own, anything else is none with one.
    words = row.split(" ", len(form))
    if len(words) != len(form) + 1:
        raise NoRow("the row has too few words")
    for place, word in zip(form, words[1:]):
        if not fits(place, word):
            raise NoRow("a word is not what ought to stand in its place")
    return words


def fits(place, word):
    if place == "name":
        return is_name(word)
    if place == "turn":
        return is_turn(word)
    if place == "prime":
        return is_figures(word, PRIME_FIGURES)
    if place == "number":
        return is_figures(word, GRID_FIGURES)
    # A plan or a paper is refused as a text, not as a row.
    return True


def is_name(word):
    return 1 <= len(word) <= MOST_LETTERS and all([sign in LETTERS for sign in word])


def is_turn(word):
    if word.startswith("-"):
        return word != "-0" and is_figures(word[1:], MOST_FIGURES)
    return is_figures(word, MOST_FIGURES)


def told_plan(words):
    if words[0] == "plan":
        return read_plan(words[2])
    if words[0] == "pair":
        return pair_plan(int(words[2]), int(words[3]))
    return grid_plan(int(words[2]))


def turn_answer(turn):
    return "never" if turn is None else str(turn)


def sure_answer(one, other):
    paper = meeting_paper(one, other)
    if paper is None:
        shift = lonely_shift(one, other)
        return f"lonely at {shift}"
    wait = paper_wait(one, other, paper)
    text = shown_paper(paper)
    return f"sure within {wait} by {text}"


def worst_answer(one, other):
    found = worst(one, other)
    if found is None:
        return "lonely"
    wait = found[0]
    shift = found[1]
    turn = found[2]
    return f"{wait} at {shift} from {turn}"


def check_answer(one, other, paper):
    try:
        wait = paper_wait(one, other, paper)
    except NoPaper:
        return "wrong"
    return f"right within {wait}"

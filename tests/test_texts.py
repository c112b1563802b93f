"""Points 31 and 32: plans and papers written and read; and what points 2 and 3 say of them."""

import copy
import itertools
import random
import time
import unittest

from shiftmeet.errors import MeetError, NoPlan, NoText
from shiftmeet.papers import paper_depth, paper_knots
from shiftmeet.sure import meeting_paper
from shiftmeet.texts import read_paper, read_plan, shown_paper, shown_plan

HUNDRED = 10 ** 100 - 1
LEAST_HUNDRED = 10 ** 99

# Plans with their texts.
PLANS = (
    ([], "never"),
    ([(1, 0, 1)], "1:0"),
    ([(7, 2, 1)], "7:2"),
    ([(7, 2, 3)], "7:2:3"),
    ([(7, 2, 7)], "7:2:7"),
    ([(2, 1, 2)], "2:1:2"),
    ([(10, 0, 10)], "10:0:10"),
    ([(7, 2, 3), (4, 0, 1)], "7:2:3 4:0"),
    ([(4, 0, 1), (7, 2, 3), (4, 0, 1)], "4:0 7:2:3 4:0"),
    ([(100, 90, 11), (12, 11, 10), (11, 1, 1)], "100:90:11 12:11:10 11:1"),
    ([(1, 0, 1)] * 12, "1:0 1:0 1:0 1:0 1:0 1:0 1:0 1:0 1:0 1:0 1:0 1:0"),
    ([(20 + k, k, k + 1) for k in range(12)],
     "20:0 21:1:2 22:2:3 23:3:4 24:4:5 25:5:6 26:6:7 27:7:8 28:8:9 29:9:10 30:10:11 31:11:12"),
    ([(HUNDRED, HUNDRED - 1, HUNDRED)], "9" * 100 + ":" + "9" * 99 + "8:" + "9" * 100),
    ([(LEAST_HUNDRED, 0, 1)], "1" + "0" * 99 + ":0"),
    ([(HUNDRED, LEAST_HUNDRED, 12)] * 12, " ".join(["9" * 100 + ":1" + "0" * 99 + ":12"] * 12)),
)

# Texts that write a waking that is none, but are written as they ought to be.
NO_PLANS = (
    "0:0", "0:0:1", "0:0:0", "1:1", "1:1:1", "1:0:2", "1:0:0", "7:7", "7:8:1", "7:2:0", "7:2:8", "7:0:100",
    "1:0 1:1", "1:1 1:0", "7:2:3 4:0 4:4 5:0", "0:0 " * 11 + "0:0", "1:0 " * 11 + "2:0:3", "9:" + "9" * 100,
    "9" * 100 + ":" + "9" * 100, "5:0:" + "9" * 100,
)

SIGNS = ("", " ", "  ", "\t", "\n", ":", "-", "+", "0", "x", "_", ".", ",", "never", "\r")

# Texts that are no plan's, whatever their numbers are.
NO_TEXTS = (
    "", " ", "  ", "\t", "\n", ":", "::", ":::", "-", "x", "0", "1", "7", "never ", " never", "Never", "NEVER", "neve",
    "nevers", "never\n", "\nnever", "never never", "never 1:0", "1:0 never", "never:0", "1:never", "None", "[]",
    " 1:0", "1:0 ", "1:0  1:0", "1:0\t1:0", "1:0\n1:0", "1:0\n", "\n1:0", "\t1:0", "1:0\t", "1 :0", "1: 0", "1:0 :1",
    "7:2:3:1", "7:2:3:", ":7:2:3", "7::3", "7:2:", ":2:3", "7:", ":0", "7", "7:2:3 4", "4 7:2:3", "7:2:3 4:0:1:1",
    "7;2", "7,2", "7.0:2", "7:2.0", "(7:2)", "7-2", "7/2", "7 2 3", "7: 2:3", "7:2 :3",
    "-7:2", "7:-2", "7:2:-3", "+7:2", "7:+2", "7:2:+3", "--7:2", "7:-0", "-0:0",
    "07:2", "7:02", "7:2:03", "00:0", "7:00", "7:2:01", "0007:2", "7:2 04:0",
    "7_0:2", "1_0:0", "0x7:2", "7:2a", "a:2", "7:b:3", "1e3:0", "7:2:three", "'7':2",
    "1" + "0" * 100 + ":0", "1:" + "1" * 101, "7:0:" + "9" * 101, "9" * 4000 + ":0", "9" * 4301 + ":0", "9" * 20000,
    "0" * 100 + ":0", "0" * 101 + ":0",
    "\u0661:0", "\u0667:\u0662", "7:\u00b2", "\u00b9\u00b2:0", "7:2:\u0663", "\uff17:2", "7\u00a0:2", "7:2\u00a04:0",
    "1:0\u20031:0",
    " ".join(["1:0"] * 13), " ".join(["1:0"] * 14), " ".join(["1:0"] * 300), " ".join(["7:2:3"] * 13),
    " ".join(["1:0"] * 12) + " ", " " + " ".join(["1:0"] * 12), " ".join(["1:0"] * 12) + " never",
)

# Both are due: what is read first is a waking that is none.
BOTH = (
    "0:0 ", " 0:0", "0:0  1:0", "0:0 x", "x 0:0", "1:1:1:1", "0:0 01:0", "7:9 7:-1", "7:2:8 7", "0:0 never",
    "1:1 " + "1" * 101 + ":0", " ".join(["0:0"] * 13), " ".join(["1:0"] * 12) + " 0:0", "0:0 " + " ".join(["1:0"] * 12),
)

# Papers with their texts.
PAPERS = (
    (("in", 0), "in 0"),
    (("in", 7), "in 7"),
    (("in", 143), "in 143"),
    (("in", HUNDRED), "in " + "9" * 100),
    (("in", LEAST_HUNDRED), "in 1" + "0" * 99),
    (("parted", 2, []), "by 2 ()"),
    (("parted", 0, []), "by 0 ()"),
    (("parted", HUNDRED, []), "by " + "9" * 100 + " ()"),
    (("parted", 2, [("in", 0)]), "by 2 (in 0)"),
    (("parted", 1, [("in", 0)]), "by 1 (in 0)"),
    (("parted", 0, [("in", 5)]), "by 0 (in 5)"),
    (("parted", 2, [("in", 3), ("in", 1)]), "by 2 (in 3, in 1)"),
    (("parted", 2, [("in", 3), ("in", 1), ("in", 12)]), "by 2 (in 3, in 1, in 12)"),
    (("parted", 2, [("in", 0), ("parted", 3, [("in", 1), ("in", 1), ("in", 2)])]),
     "by 2 (in 0, by 3 (in 1, in 1, in 2))"),
    (("parted", 2, [("parted", 3, [("in", 1), ("in", 1), ("in", 2)]), ("in", 0)]),
     "by 2 (by 3 (in 1, in 1, in 2), in 0)"),
    (("parted", 2, [("parted", 5, []), ("parted", 5, [])]), "by 2 (by 5 (), by 5 ())"),
    (("parted", 2, [("parted", 3, [("parted", 4, [])])]), "by 2 (by 3 (by 4 ()))"),
    (("parted", HUNDRED, [("in", HUNDRED), ("in", 0)]), "by " + "9" * 100 + " (in " + "9" * 100 + ", in 0)"),
)

NO_PAPERS = (
    "", " ", "\t", "\n", "in", "in ", "by", "by ", "by 2", "by 2 ", "by 2 (", "by 2 )", "by ()", "by  ()", "()", "(",
    ")", "(in 0)", "0", "2 (in 0)", "in in 0", "by by 2 ()", "by in 0", "in by 2 ()", "in 0 ()", "in 0 (in 0)",
    "In 0", "IN 0", "By 2 ()", "BY 2 ()", "inn 0", "an 0", "parted 2 (in 0)", "never", "by 2 (never)", "by two (in 0)",
    "in K", "in x", "by N ()", "by x ()", "None",
    " in 0", "in 0 ", "in  0", "in0", "in\t0", "in\n0", "in 0\n", "\nin 0", "in 0,", "in 0, in 0", "in 0 in 0", "in 0)",
    " by 2 ()", "by 2 () ", "by  2 ()", "by2 ()", "by 2()", "by 2  ()", "by 2\t()", "by 2 ( )", "by 2 () ()",
    "by 2 ())", "by 2 (()", "by 2 (())", "by 2 ((in 0))", "by 2 (in 0))", "by 2 ((in 0)", "by 2 (in 0", "by 2 in 0",
    "by 2 in 0)", "by 2 [in 0]", "by 2 (in 0]", "by 2 {in 0}", "by 2 ()\n",
    "by 2 (in 0,in 1)", "by 2 (in 0 , in 1)", "by 2 (in 0,  in 1)", "by 2 (in 0 in 1)", "by 2 (in 0; in 1)",
    "by 2 (in 0,, in 1)", "by 2 (in 0, , in 1)", "by 2 (in 0, in 1,)", "by 2 (in 0, in 1, )", "by 2 (in 0, in 1 )",
    "by 2 ( in 0, in 1)", "by 2 (, in 0)", "by 2 (,)", "by 2 (, )", "by 2 (in 0,\nin 1)", "by 2 (in 0,\tin 1)",
    "by 2 (in 0, 1)", "by 2 (0, 1)", "by 2 (in 0, in)", "by 2 (in 0, by)", "by 2 (in 0, by 2)", "by 2 (in 0, by 2 ()",
    "by 2 (in 0, by 2 ()), in 1", "by 2 (in 0, in 1)x", "by 2 (in 0, in 1) in 2", "by 2 (in 0, in 1)by 2 ()",
    "in -1", "in +1", "in -0", "by -2 ()", "by +2 ()", "in 00", "in 01", "by 02 ()", "by 00 ()", "in 1_0", "in 1.0",
    "by 2 (in 0, in 01)", "by 2 (in 0, in -1)", "in 0x1", "in 1e3",
    "in 1" + "0" * 100, "by 1" + "0" * 100 + " ()", "by 2 (in 0, in " + "9" * 101 + ")", "in " + "9" * 20000,
    "in " + "0" * 100,
    "in \u0661", "in \u00b2", "in \uff17", "by \u0662 ()", "in 1\u0661", "in\u00a00", "by 2 (in 0,\u00a0in 1)",
)


def waking_texts():
    """Texts of one waking of small numbers, with the waking."""
    for period, first, length in itertools.product(range(4), range(4), range(5)):
        waking = (period, first, length)
        yield f"{period}:{first}:{length}", waking
        if length == 1:
            yield f"{period}:{first}", waking


def is_waking(waking):
    period, first, length = waking
    return period >= 1 and first < period and 1 <= length <= period


def spoiled(text, signs):
    """The text with a sign left out, or one of the told ones put in or in the place of another."""
    for place in range(len(text) + 1):
        for sign in signs:
            yield text[:place] + sign + text[place:]
            yield text[:place] + sign + text[place + 1:]


def chain(depth, inmost):
    """A paper of one paper within another."""
    paper = inmost
    for level in range(depth):
        paper = ("parted", 2, [paper])
    return paper


def chain_text(depth, inmost):
    return "by 2 (" * depth + inmost + ")" * depth


def comb(depth, last):
    """A paper as deep as told, with papers on both sides of the deeper one."""
    paper = ("parted", 9, [("in", last), ("in", 0)])
    for level in range(1, depth):
        paper = ("parted", level, [("in", level), paper, ("parted", 7, [])])
    return paper


def drawn_paper(drawn, depth):
    if depth == 0 or drawn.random() < 0.3:
        return ("in", drawn.choice((0, 1, 9, 10, 143, HUNDRED)))
    papers = [drawn_paper(drawn, depth - 1) for number in range(drawn.randrange(4))]
    return ("parted", drawn.choice((0, 1, 2, len(papers), 5000, HUNDRED)), papers)


class Refusing(unittest.TestCase):
    def refused(self, read, text, kind):
        with self.assertRaises(MeetError, msg=repr(text)[:200]) as caught:
            read(text)
        self.assertIs(type(caught.exception), kind, repr(text)[:200])


class Plans(Refusing):
    def there_and_back(self, plan):
        kept = list(plan)
        text = shown_plan(plan)
        self.assertIs(type(text), str)
        self.assertEqual(plan, kept)
        read = read_plan(text)
        self.assertEqual(read, kept)
        self.assertEqual([type(read)] + [type(waking) for waking in read], [list] + [tuple] * len(plan))
        self.assertIsNot(read, plan)

    def test_written_and_read(self):
        for plan, text in PLANS:
            self.assertEqual(shown_plan(plan), text)
            self.assertEqual(read_plan(text), plan)
            self.there_and_back(plan)

    def test_small_wakings_there_and_back(self):
        wakings = [waking for text, waking in waking_texts() if is_waking(waking)]
        for one in wakings:
            self.there_and_back([one])
            for other in wakings:
                self.there_and_back([one, other])

    def test_great_plans_there_and_back(self):
        drawn = random.Random(31)
        for many in range(13):
            plan = []
            for number in range(many):
                period = drawn.randrange(LEAST_HUNDRED, HUNDRED)
                plan.append((period, drawn.randrange(period), drawn.choice((1, period, drawn.randrange(1, period)))))
            self.there_and_back(plan)

    def test_each_text_of_one_waking(self):
        for text, waking in waking_texts():
            if is_waking(waking):
                self.assertEqual(read_plan(text), [waking])
            else:
                self.refused(read_plan, text, NoPlan)

    def test_a_written_length_of_one(self):
        self.assertEqual(read_plan("7:2:1"), [(7, 2, 1)])
        self.assertEqual(read_plan("1:0:1"), [(1, 0, 1)])
        self.assertEqual(read_plan("7:2 7:2:1 7:2:2"), [(7, 2, 1), (7, 2, 1), (7, 2, 2)])
        self.assertEqual(read_plan(" ".join(["9:8:1"] * 12)), [(9, 8, 1)] * 12)
        self.assertEqual(shown_plan(read_plan("7:2:1 4:0:1")), "7:2 4:0")

    def test_no_plans(self):
        for text in NO_PLANS:
            self.refused(read_plan, text, NoPlan)

    def test_no_texts(self):
        for text in NO_TEXTS + BOTH:
            self.refused(read_plan, text, NoText)

    def test_each_sign_in_the_place_of_a_figure(self):
        for code in range(256):
            sign = chr(code)
            if sign in "0123456789":
                self.assertEqual(read_plan(f"9{sign}:8"), [(90 + int(sign), 8, 1)])
                self.assertEqual(read_plan(f"99:{sign}:9"), [(99, int(sign), 9)])
            elif sign != ":":
                for text in (f"{sign}9:8", f"9{sign}9:8", f"9{sign}:8", f"99:{sign}:9", f"99:8:9{sign}", f"9:8{sign}"):
                    self.refused(read_plan, text, NoText)

    def test_more_than_twelve_wakings_are_written_only(self):
        # A plan of shifts may have more than twelve wakings; it is written, but not read.
        text = " ".join(["2:1"] * 13)
        self.assertEqual(shown_plan([(2, 1, 1)] * 13), text)
        self.refused(read_plan, text, NoText)
        self.assertEqual(shown_plan([(3, 1, 2)] * 144), " ".join(["3:1:2"] * 144))

    def test_texts_spoiled_in_one_place(self):
        # Whatever is read of a text that is spoiled is written as that text, but for a length of 1.
        outcomes = {"read": 0, NoText: 0, NoPlan: 0}
        for text in ("7:2", "10:9:2", "7:2:3 40:0", "5:4:1", "never"):
            for other in spoiled(text, SIGNS):
                try:
                    plan = read_plan(other)
                except (NoText, NoPlan) as error:
                    outcomes[type(error)] += 1
                else:
                    outcomes["read"] += 1
                    self.assertIn(shown_plan(plan), (other, other.removesuffix(":1")))
        self.assertGreater(min(outcomes.values()), 10)

    def test_the_told_list_is_the_askers_own(self):
        for text in ("never", "7:2 4:0:3"):
            plan = read_plan(text)
            kept = list(plan)
            again = read_plan(text)
            plan.append((1, 0, 1))
            self.assertEqual(again, kept)
            self.assertEqual(read_plan(text), kept)


class Papers(Refusing):
    def there_and_back(self, paper):
        kept = copy.deepcopy(paper)
        text = shown_paper(paper)
        self.assertIs(type(text), str)
        self.assertTrue(paper == kept)
        read = read_paper(text)
        self.assertTrue(read == kept)
        self.assertIs(type(read), tuple)
        return text

    def test_written_and_read(self):
        for paper, text in PAPERS:
            self.assertEqual(shown_paper(paper), text)
            self.assertEqual(read_paper(text), paper)
            self.there_and_back(paper)

    def test_drawn_papers_there_and_back(self):
        drawn = random.Random(32)
        for number in range(300):
            self.there_and_back(drawn_paper(drawn, drawn.randrange(6)))

    def test_a_depth_of_forty(self):
        for depth in (1, 2, 39, 40):
            self.assertEqual(shown_paper(chain(depth, ("in", 3))), chain_text(depth, "in 3"))
            self.assertEqual(read_paper(chain_text(depth, "in 3")), chain(depth, ("in", 3)))
            self.assertEqual(paper_depth(comb(depth, 5)), depth)
            self.there_and_back(comb(depth, 5))
            empty = chain(depth - 1, ("parted", 2, []))
            self.assertEqual(paper_depth(empty), depth)
            self.assertEqual(shown_paper(empty), chain_text(depth, ""))
            self.assertEqual(read_paper(chain_text(depth, "")), empty)

    def test_a_depth_above_forty(self):
        for depth in (41, 42, 80, 300):
            self.refused(read_paper, chain_text(depth, "in 3"), NoText)
            self.refused(read_paper, chain_text(depth, ""), NoText)
        for depth in (41, 60):
            self.assertEqual(shown_paper(chain(depth, ("in", 3))), chain_text(depth, "in 3"))
            self.refused(read_paper, shown_paper(comb(depth, 5)), NoText)
        # The deep place is in the first paper, in the last one, or behind a shallow one.
        deep = chain_text(40, "in 3")
        for text in (f"by 2 ({deep}, in 0)", f"by 2 (in 0, {deep})", f"by 3 (in 0, {deep}, by 2 ())"):
            self.refused(read_paper, text, NoText)
        deep = chain_text(39, "in 3")
        for text in (f"by 2 ({deep}, {deep})", f"by 2 (in 0, {deep})", f"by 3 ({deep}, by 2 (), {deep})"):
            self.assertEqual(paper_depth(read_paper(text)), 40)
            self.assertEqual(shown_paper(read_paper(text)), text)

    def test_a_depth_of_some_thousand(self):
        for depth in (1000, 4000, 4999):
            self.refused(read_paper, chain_text(depth, "in 3")[:30000], NoText)
            self.refused(read_paper, chain_text(depth, ""), NoText)
            self.refused(read_paper, "by 2 (" * depth, NoText)

    def test_no_papers(self):
        for text in NO_PAPERS:
            self.refused(read_paper, text, NoText)

    def test_texts_spoiled_in_one_place(self):
        # Whatever is read of a text that is spoiled is written as that very text.
        signs = ("", " ", ",", ", ", "(", ")", "()", "0", "9", "in ", "by ", "\n", "-", "x")
        read = 0
        for text in ("in 7", "by 2 ()", "by 2 (in 0, by 3 (in 1, in 1, in 2))", "by 2 (by 1 (in 10), in 0)"):
            for other in spoiled(text, signs):
                try:
                    paper = read_paper(other)
                except MeetError as error:
                    self.assertIs(type(error), NoText)
                else:
                    read += 1
                    self.assertEqual(shown_paper(paper), other)
        self.assertGreater(read, 20)

    def test_each_sign_in_the_place_of_a_figure(self):
        for code in range(256):
            sign = chr(code)
            if sign in "0123456789":
                self.assertEqual(read_paper(f"in {sign}"), ("in", int(sign)))
                self.assertEqual(read_paper(f"by 9{sign} ()"), ("parted", 90 + int(sign), []))
            else:
                for text in (f"in {sign}", f"in {sign}1", f"in 1{sign}", f"by {sign} ()", f"by 1{sign} ()",
                             f"by {sign}1 ()", f"by 2 (in 0, in 1{sign})"):
                    self.refused(read_paper, text, NoText)

    def test_cut_off_texts(self):
        text = "by 2 (in 0, by 3 (in 1, by 2 (), in 25))"
        self.assertEqual(shown_paper(read_paper(text)), text)
        for place in range(len(text)):
            self.refused(read_paper, text[:place], NoText)

    def test_many_thousand_knots_in_good_time(self):
        begin = time.perf_counter()
        wide = ("parted", 5000, [("in", k) for k in range(5000)])
        self.there_and_back(wide)
        square = ("parted", 141, [("parted", 140, [("in", 9)] * 140) for number in range(141)])
        self.assertGreater(paper_knots(square), 19800)
        self.there_and_back(square)
        full = ("in", 1)
        for level in range(13):
            full = ("parted", 2, [full, full])
        self.assertGreater(paper_knots(full), 16000)
        self.there_and_back(full)
        deep = chain(39, ("parted", 5000, [("in", HUNDRED)] * 5000))
        self.there_and_back(deep)
        self.refused(read_paper, shown_paper(wide)[:-1], NoText)
        self.refused(read_paper, shown_paper(wide) + ")", NoText)
        self.assertLess(time.perf_counter() - begin, 20)

    def test_papers_found(self):
        plans = ([(24, 2 * k, 1) for k in range(12)], [(24, 0, 2)]), ([(4999, 0, 2500)], [(4999, 0, 2500)])
        for one, other in plans:
            paper = meeting_paper(one, other)
            self.assertIsNotNone(paper)
            self.there_and_back(paper)

    def test_the_told_lists_are_the_askers_own(self):
        text = "by 2 (in 0, by 3 (in 1, in 1, in 2))"
        paper = read_paper(text)
        again = read_paper(text)
        paper[2][1][2].clear()
        paper[2].append(("in", 9))
        self.assertEqual(shown_paper(again), text)
        self.assertEqual(shown_paper(read_paper(text)), text)
        twice = read_paper("by 2 (by 2 (), by 2 ())")
        twice[2][0][2].append(("in", 5))
        self.assertEqual(twice, ("parted", 2, [("parted", 2, [("in", 5)]), ("parted", 2, [])]))


if __name__ == "__main__":
    unittest.main()

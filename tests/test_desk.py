"""Points 33 to 36: the desk, its rows, its answers and its refusals; and what points 2 and 3 say of them."""

import time
import unittest

from shiftmeet.desk import Desk
from shiftmeet.errors import MeetError, NoName, NoPlan, NoPrimes, NoRow, NoText, TooMany

HUNDRED = 10 ** 100 - 1
FIFTY = 10 ** 50 - 1
NINES = "9" * 100
LEAST = "1" + "0" * 99

# Rows that make plans known to the desks of these tests.
KEPT = (
    "plan none never",
    "plan always 1:0",
    "plan even 2:0",
    "plan both 2:0 2:1",
    "plan six 6:0",
    "plan late 7:2:3 4:0",
    "plan three 5:0:3",
    "plan two 5:0:2",
    "plan most 5:0:4",
    "plan four 4:3",
    "plan long 5001:0:5001",
    "plan great " + NINES + ":5",
    "pair pair 2 3",
    "grid grid 3",
)

# Rows with their answers.
AWAKE = (
    ("awake late 5", "8"),
    ("awake late 8", "8"),
    ("awake late 9", "9"),
    ("awake late -5", "-5"),
    ("awake late -3", "-3"),
    ("awake even 0", "0"),
    ("awake even 1", "2"),
    ("awake even -1", "0"),
    ("awake four -4", "-1"),
    ("awake none 0", "never"),
    ("awake none -7", "never"),
    ("awake none " + NINES, "never"),
    ("awake great 0", "5"),
    ("awake great 6", str(HUNDRED + 5)),
    ("awake great " + NINES, str(HUNDRED + 5)),
    ("awake great -" + NINES, str(5 - HUNDRED)),
    ("awake even " + NINES, str(HUNDRED + 1)),
    ("awake even -" + LEAST, "-" + LEAST),
)
MEET = (
    ("meet four six 1 7", "7"),
    ("meet four six 1 8", "19"),
    ("meet four six -5 8", "19"),
    ("meet four six 1 -9", "-5"),
    ("meet four six 2 8", "never"),
    ("meet six four 1 0", "0"),
    ("meet six four -1 0", "6"),
    ("meet six four 0 0", "never"),
    ("meet even even 1 0", "never"),
    ("meet even even 2 1", "2"),
    ("meet none always 0 0", "never"),
    ("meet always none 0 0", "never"),
    ("meet none none -3 4", "never"),
    ("meet always always -3 4", "4"),
    ("meet always always " + NINES + " -" + NINES, "-" + NINES),
    ("meet always even -" + NINES + " " + NINES, NINES),
    ("meet always even " + NINES + " " + LEAST, str(10 ** 99 + 1)),
    ("meet great great " + NINES + " 0", "5"),
    ("meet great great 1 0", "never"),
)
# Which paper is found is not promised: of these there is but one that has the fewest knots, and that one is found.
SURE = (
    ("sure always always", "sure within 1 by in 0"),
    ("sure always even", "sure within 2 by in 0"),
    ("sure even always", "sure within 2 by in 0"),
    ("sure six always", "sure within 6 by in 0"),
    ("sure three three", "sure within 5 by in 0"),
    ("sure both six", "sure within 6 by by 2 (in 0, in 1)"),
    ("sure six both", "sure within 6 by by 2 (in 0, in 1)"),
    ("sure three two", "lonely at 3"),
    ("sure two three", "lonely at 2"),
    ("sure even even", "lonely at 1"),
    ("sure four six", "lonely at 0"),
    ("sure six four", "lonely at 0"),
    ("sure none always", "lonely at 0"),
    ("sure always none", "lonely at 0"),
    ("sure none none", "lonely at 0"),
    ("sure none great", "lonely at 0"),
    ("sure always great", "sure within " + NINES + " by in 0"),
)
WORST = (
    ("worst always always", "0 at 0 from 0"),
    ("worst always even", "1 at 0 from 1"),
    ("worst even always", "1 at 0 from 1"),
    ("worst both six", "5 at 0 from 1"),
    ("worst six both", "5 at 0 from 1"),
    ("worst four always", "3 at 0 from 0"),
    ("worst three three", "4 at 2 from 3"),
    ("worst three most", "3 at 1 from 3"),
    ("worst most three", "3 at 2 from 4"),
    ("worst three two", "lonely"),
    ("worst two three", "lonely"),
    ("worst even even", "lonely"),
    ("worst none always", "lonely"),
    ("worst always none", "lonely"),
    ("worst none none", "lonely"),
)
CHECK = (
    ("check always always in 0", "right within 1"),
    ("check always always in 1", "wrong"),
    ("check always always by 2 (in 0, in 0)", "right within 1"),
    ("check always always by 2 (in 0)", "wrong"),
    ("check always always by 2 ()", "wrong"),
    ("check always always by 0 ()", "wrong"),
    ("check always always by 1 (in 0)", "wrong"),
    ("check always always by 3 (in 0, in 0)", "wrong"),
    ("check both six by 2 (in 0, in 1)", "right within 6"),
    ("check both six by 2 (in 1, in 0)", "wrong"),
    ("check both six by 4 (in 0, in 1, in 0, in 1)", "right within 6"),
    ("check both six by 2 (by 2 (in 0, in 0), in 1)", "right within 6"),
    ("check both six in 0", "wrong"),
    ("check grid grid in 1", "right within 9"),
    ("check grid grid in 2", "right within 9"),
    ("check grid grid in 0", "wrong"),
    ("check pair pair in 1", "right within 6"),
    ("check pair pair in 3", "wrong"),
    ("check pair grid in 0", "right within 6"),
    ("check pair grid in 1", "right within 18"),
    ("check grid pair in 0", "right within 6"),
    ("check grid pair in 1", "wrong"),
    ("check grid pair in 2", "right within 18"),
    ("check grid pair by 2 (in 0, in 2)", "right within 18"),
    ("check even even in 0", "wrong"),
    ("check none always in 0", "wrong"),
    ("check always none by 2 (in 0, in 0)", "wrong"),
    ("check always great in 0", "right within " + NINES),
    ("check great great in 0", "wrong"),
    ("check long long in 0", "right within 5001"),
    ("check always always in " + NINES, "wrong"),
    ("check always always " + "by 2 (" * 40 + "in 0" + ", in 0)" * 40, "right within 1"),
    ("check always always " + "by 2 (" * 40 + ")" * 40, "wrong"),
)
ROWS = AWAKE + MEET + SURE + WORST + CHECK

NAMES = ("a", "z", "m", "ab", "plan", "sure", "never", "in", "by", "kept", "abcdefg", "abcdefgh", "zzzzzzzz")
NO_NAMES = ("", "abcdefghi", "a" * 9, "a" * 100, "A", "Even", "eVEN", "even1", "1", "0", "e-ven", "e_ven", "_", "-",
            "even.", "even,", "even:", "e\tven", "even\n", "\neven", "e\u00e9n", "\u00df", "\u0430", "\uff41", "*", "~")
NO_FIGURES = ("", "-", "-0", "--1", "+1", "+0", "- 1", "00", "01", "-01", "007", "1.0", "1e3", "1_0", "0x1", "x", "one",
              "1-", "1,", "\t1", "1\t", "1\n", "\n1", "\u0661", "\u00b2", "\uff11", "-\u0661", "None",
              "1" + NINES, "1" + "0" * 100, "-1" + "0" * 100, "9" * 2000, "-" + "9" * 2000, "0" * 100, "never")


def desk_of(rows=KEPT):
    desk = Desk()
    for row in rows:
        desk.told(row)
    return desk


class AtADesk(unittest.TestCase):
    def answered(self, desk, row, answer):
        told = desk.told(row)
        self.assertIs(type(told), str)
        self.assertEqual(told, answer, repr(row)[:200])

    def refused(self, desk, row, kind):
        with self.assertRaises(MeetError, msg=repr(row)[:200]) as caught:
            desk.told(row)
        self.assertIs(type(caught.exception), kind, repr(row)[:200])


class Answers(AtADesk):
    def test_each_kind_of_row(self):
        desk = Desk()
        for row in KEPT:
            self.answered(desk, row, "kept")
        for row, answer in ROWS:
            self.answered(desk, row, answer)
        # Nothing hangs on what was asked before.
        for row, answer in reversed(ROWS):
            self.answered(desk, row, answer)

    def test_plans_are_kept(self):
        desk = Desk()
        self.answered(desk, "plan a 7:2:3 4:0", "kept")
        self.answered(desk, "awake a 5", "8")
        self.answered(desk, "plan a 1:0:1", "kept")
        self.answered(desk, "awake a 5", "5")
        self.answered(desk, "plan a " + " ".join(["9:8"] * 12), "kept")
        self.answered(desk, "awake a 0", "8")
        self.answered(desk, "plan a " + NINES + ":" + "9" * 99 + "8:1", "kept")
        self.answered(desk, "awake a 0", "9" * 99 + "8")
        self.answered(desk, "plan a never", "kept")
        self.answered(desk, "awake a 0", "never")

    def test_pairs_are_kept(self):
        desk = Desk()
        self.answered(desk, "pair a 5 3", "kept")
        self.assertEqual([desk.told(f"awake a {turn}") for turn in range(1, 11)],
                         ["3", "3", "3", "5", "5", "6", "9", "9", "9", "10"])
        # The order of the primes is the order of the wakings.
        self.answered(desk, "plan two 2:0", "kept")
        self.answered(desk, "check a two in 0", "right within 10")
        self.answered(desk, "check a two in 1", "right within 6")
        self.answered(desk, "pair b 2 999999999989", "kept")
        self.answered(desk, "pair c 999999999961 999999999989", "kept")
        self.answered(desk, "awake c 1", "999999999961")
        self.answered(desk, "awake c 999999999962", "999999999989")
        self.answered(desk, "check b c in 0", "right within 1999999999922")

    def test_grids_are_kept(self):
        desk = Desk()
        self.answered(desk, "grid a 3", "kept")
        self.assertEqual([desk.told(f"awake a {turn}") for turn in range(1, 11)],
                         ["1", "2", "3", "6", "6", "6", "9", "9", "9", "10"])
        self.answered(desk, "grid a 1", "kept")
        self.answered(desk, "awake a -7", "-7")
        for number in (FIFTY, 10 ** 49):
            self.answered(desk, f"grid a {number}", "kept")
            self.answered(desk, "awake a 1", "1")
            self.answered(desk, f"awake a {number}", f"{number}")
            self.answered(desk, f"awake a {number + 1}", f"{2 * number}")
            self.answered(desk, "check a a in 1", f"right within {number * number}")

    def test_a_name_kept_anew(self):
        desk = desk_of()
        kinds = (("plan x 2:0", "2"), ("plan x 7:3", "3"), ("grid x 5", "1"), ("pair x 7 11", "7"),
                 ("plan x never", "never"), ("pair x 5 3", "3"), ("grid x 1", "1"), ("plan x 9:1", "1"))
        for row, turn in kinds * 2:
            self.answered(desk, row, "kept")
            self.answered(desk, "awake x 1", turn)
        # The others stay.
        for row, answer in ROWS:
            self.answered(desk, row, answer)

    def test_a_plan_kept_anew_counts_in_every_answer(self):
        desk = Desk()
        for plan, answers in (
                ("2:0", ("lonely at 1", "lonely", "never", "wrong")),
                ("3:0:2", ("sure within 3 by in 0", "2 at 1 from 2", "4", "right within 3")),
                ("never", ("lonely at 0", "lonely", "never", "wrong")),
                ("1:0", ("sure within 1 by in 0", "0 at 0 from 0", "2", "right within 1"))):
            self.answered(desk, "plan a " + plan, "kept")
            for row, answer in zip(("sure a a", "worst a a", "meet a a 1 2", "check a a in 0"), answers):
                self.answered(desk, row, answer)

    def test_two_desks_know_nothing_of_each_other(self):
        one, other = Desk(), Desk()
        self.answered(one, "plan a 2:0", "kept")
        self.refused(other, "awake a 1", NoName)
        self.answered(other, "plan a 5:0", "kept")
        self.answered(other, "plan b 5:0", "kept")
        self.answered(one, "awake a 1", "2")
        self.answered(other, "awake a 1", "5")
        self.refused(one, "awake b 1", NoName)
        self.refused(one, "sure a b", NoName)
        self.refused(Desk(), "awake a 1", NoName)

    def test_the_same_name_twice_in_one_row(self):
        desk = desk_of(["plan a 5:0:3"])
        self.answered(desk, "meet a a 3 0", "0")
        self.answered(desk, "meet a a 3 1", "5")
        self.answered(desk, "meet a a 0 3", "5")
        self.answered(desk, "sure a a", "sure within 5 by in 0")
        self.answered(desk, "worst a a", "4 at 2 from 3")
        self.answered(desk, "check a a in 0", "right within 5")

    def test_names_that_are_words_of_the_rows(self):
        desk = Desk()
        for name in ("plan", "awake", "meet", "sure", "worst", "check", "pair", "grid", "never", "in", "by", "kept"):
            self.answered(desk, f"plan {name} 5:0:3", "kept")
            self.answered(desk, f"awake {name} 3", "5")
            self.answered(desk, f"sure {name} {name}", "sure within 5 by in 0")
            self.answered(desk, f"check {name} {name} in 0", "right within 5")
            self.answered(desk, f"grid {name} 1", "kept")
            self.answered(desk, f"pair {name} 2 3", "kept")

    def test_the_papers_of_sure_are_read_by_check(self):
        desk = desk_of()
        self.answered(desk, "plan many " + " ".join(f"24:{2 * k}" for k in range(12)), "kept")
        self.answered(desk, "plan wide 24:0:2", "kept")
        self.answered(desk, "plan rows " + " ".join(f"144:{k}" for k in range(12)), "kept")
        self.answered(desk, "plan columns " + " ".join(f"144:{12 * k}" for k in range(12)), "kept")
        for names in ("always even", "both six", "many wide", "wide many", "pair pair", "pair grid", "grid grid",
                      "rows columns", "columns rows", "rows always"):
            answer = desk.told("sure " + names)
            self.assertRegex(answer, r"^sure within [1-9][0-9]* by (in|by) [0-9]+")
            # The very same text, whatever is asked or kept between, and at another desk too.
            self.answered(desk, "plan between 3:0", "kept")
            desk.told("sure between between")
            self.answered(desk, "sure " + names, answer)
            wait, found, paper = answer.removeprefix("sure within ").partition(" by ")
            self.answered(desk, f"check {names} {paper}", f"right within {wait}")
            self.answered(desk, "sure " + names, answer)

    def test_the_very_same_text_where_the_same_plans_are_kept_anew(self):
        rows = ("plan a 144:0:20 12:3 9:0:2", "plan b 8:0:5 6:1:4", "grid c 6", "pair d 5 2")
        pairs = [f"sure {one} {other}" for one in "abcd" for other in "abcd"]
        desk = desk_of(rows)
        answers = [desk.told(row) for row in pairs]
        for row in reversed(rows):
            desk.told(row)
        self.assertEqual([desk.told(row) for row in pairs], answers)
        self.assertEqual([desk_of(reversed(rows)).told(row) for row in pairs], answers)

    def test_a_long_paper(self):
        desk = Desk()
        begin = time.perf_counter()
        for period in (4096, 4999, 5000):
            # The shifts of the first wakings are a row of turns, and those of each next one the row behind it.
            row = period // 144 + 1
            ones = [f"{period}:{row * k}:{row // 2}" for k in range(12)]
            others = [f"{period}:{-row * 12 * k % period}:{row - row // 2 + 1}" for k in range(12)]
            self.answered(desk, "plan a " + " ".join(ones), "kept")
            self.answered(desk, "plan b " + " ".join(others), "kept")
            answer = desk.told("sure a b")
            self.assertGreater(len(answer), 30000)
            wait, found, paper = answer.removeprefix("sure within ").partition(" by ")
            self.assertEqual(wait, f"{period}")
            self.answered(desk, "sure a b", answer)
            self.answered(desk, "check a b " + paper, f"right within {wait}")
            self.answered(desk, "check a a " + paper, "wrong")
            self.refused(desk, "check a b " + paper + " ", NoText)
            self.refused(desk, "check a b " + paper[:-1], NoText)
        self.assertLess(time.perf_counter() - begin, 20)


class Refusals(AtADesk):
    def setUp(self):
        self.desk = desk_of()

    def tearDown(self):
        # What is refused changes nothing.
        for row, answer in AWAKE + MEET:
            self.answered(self.desk, row, answer)

    def test_names(self):
        for name in NAMES:
            desk = Desk()
            self.refused(desk, f"awake {name} 0", NoName)
            self.answered(desk, f"plan {name} 2:1", "kept")
            self.answered(desk, f"awake {name} 0", "1")
            self.answered(desk, f"pair {name} 3 5", "kept")
            self.answered(desk, f"awake {name} 1", "3")
            self.answered(desk, f"grid {name} 4", "kept")
            self.answered(desk, f"awake {name} 4", "4")
            self.answered(desk, f"meet {name} {name} 1 0", "1")

    def test_words_that_are_no_names(self):
        for name in NO_NAMES:
            for row in (f"plan {name} 2:0", f"awake {name} 0", f"pair {name} 2 3", f"grid {name} 4",
                        f"meet {name} even 0 0", f"meet even {name} 0 0", f"sure {name} even", f"sure even {name}",
                        f"worst {name} even", f"worst even {name}", f"check {name} even in 0",
                        f"check even {name} in 0"):
                self.refused(self.desk, row, NoRow)

    def test_names_by_which_nothing_is_kept(self):
        for row in ("awake nobody 0", "meet nobody even 0 0", "meet even nobody 0 0", "meet nobody nobody 0 0",
                    "sure nobody even", "sure even nobody", "worst nobody even", "worst even nobody",
                    "check nobody even in 0", "check even nobody in 0", "check even nobody by 2 ()", "sure none nobody",
                    "worst nobody none"):
            self.refused(self.desk, row, NoName)
            self.refused(Desk(), row, NoName)

    def test_a_refused_row_keeps_no_name(self):
        for row, kind in (("plan x 0:0", NoPlan), ("plan x ", NoText), ("plan x 2:0 ", NoText), ("plan x", NoRow),
                          ("pair x 4 3", NoPrimes), ("pair x 3 3", NoPrimes), ("pair x 3", NoRow), ("grid x 0", NoPlan),
                          ("grid x -1", NoRow), ("grid x", NoRow)):
            self.refused(self.desk, row, kind)
            self.refused(self.desk, "awake x 0", NoName)

    def test_a_plan_kept_before_stands(self):
        self.answered(self.desk, "plan x 7:3", "kept")
        for row, kind in (("plan x 0:0", NoPlan), ("plan x 2:0 2:2", NoPlan), ("plan x ", NoText),
                          ("plan x 2:0  2:1", NoText), ("plan x 2:0 ", NoText), ("plan x", NoRow),
                          ("plan X 2:0", NoRow), ("pair x 4 3", NoPrimes), ("pair x 3 3", NoPrimes),
                          ("pair x 2 3 5", NoRow), ("grid x 0", NoPlan), ("grid x 2 ", NoRow),
                          ("grid x " + "1" * 51, NoRow), ("pair x 2 " + "1" * 13, NoRow)):
            self.refused(self.desk, row, kind)
            self.answered(self.desk, "awake x 0", "3")
            self.answered(self.desk, "awake x 4", "10")

    def test_turns_and_shifts(self):
        for number in (0, 1, 9, 10, 100, HUNDRED, 10 ** 99, -1, -9, -10, -HUNDRED, -10 ** 99):
            self.answered(self.desk, f"awake always {number}", f"{number}")
            self.answered(self.desk, f"meet always always {number} 3", "3")
            self.answered(self.desk, f"meet always always 3 {number}", f"{number}")

    def test_figures_that_are_none(self):
        for figures in NO_FIGURES:
            for row in (f"awake always {figures}", f"meet always always {figures} 0", f"meet always always 0 {figures}",
                        f"pair x {figures} 3", f"pair x 3 {figures}", f"grid x {figures}"):
                self.refused(self.desk, row, NoRow)

    def test_each_sign_in_the_place_of_a_letter_or_a_figure(self):
        for code in range(128):
            sign = chr(code)
            desk = desk_of()
            if sign in "abcdefghijklmnopqrstuvwxyz":
                self.answered(desk, f"plan {sign} 2:1", "kept")
                self.answered(desk, f"plan x{sign}x 2:1", "kept")
            else:
                self.refused(desk, f"plan {sign} 2:1", NoRow)
                self.refused(desk, f"sure even e{sign}", NoRow)
            if sign in "0123456789":
                self.answered(desk, f"awake always {sign}", sign)
                self.answered(desk, f"awake always 1{sign}1", f"1{sign}1")
            else:
                self.refused(desk, f"awake always {sign}", NoRow)
                self.refused(desk, f"awake always 1{sign}1", NoRow)
                self.refused(desk, f"pair x 1{sign}1 3", NoRow)
                self.refused(desk, f"grid x 1{sign}1", NoRow)

    def test_figures_of_primes(self):
        self.answered(self.desk, "pair x 999999999989 2", "kept")
        self.answered(self.desk, "pair x 2 100000000003", "kept")
        for figures in ("0", "1", "4", "9", "999999999999", "100000000000", "999962000357"):
            self.refused(self.desk, f"pair x {figures} 3", NoPrimes)
            self.refused(self.desk, f"pair x 3 {figures}", NoPrimes)
        self.refused(self.desk, "pair x 3 3", NoPrimes)
        self.refused(self.desk, "pair x 999999999989 999999999989", NoPrimes)
        for figures in ("1000000000000", "1000000000039", "9999999999999", "-2", "-3", "-1", "02", "0" * 12, NINES):
            self.refused(self.desk, f"pair x {figures} 3", NoRow)
            self.refused(self.desk, f"pair x 3 {figures}", NoRow)

    def test_figures_of_grids(self):
        for figures in ("1", "9", "10", "1" + "0" * 49, "9" * 50):
            self.answered(self.desk, "grid x " + figures, "kept")
        self.refused(self.desk, "grid x 0", NoPlan)
        for figures in ("1" + "0" * 50, "9" * 51, NINES, "-1", "-0", "01", "0" * 50, "00"):
            self.refused(self.desk, "grid x " + figures, NoRow)

    def test_blanks(self):
        for row in ("awake even 0", "meet even even 0 0", "sure even even", "worst even even", "pair x 2 3",
                    "grid x 2"):
            self.desk.told(row)
            self.refused(self.desk, row + " ", NoRow)
            self.refused(self.desk, row + "  ", NoRow)
            self.refused(self.desk, " " + row, NoRow)
            self.refused(self.desk, row + "\n", NoRow)
            self.refused(self.desk, "\n" + row, NoRow)
            for place, sign in enumerate(row):
                if sign == " ":
                    for other in ("  ", "\t", "\n", "", ", "):
                        self.refused(self.desk, row[:place] + other + row[place + 1:], NoRow)

    def test_blanks_in_rows_with_a_text(self):
        for row in ("plan x 2:0 3:1", "check both six by 2 (in 0, in 1)"):
            self.desk.told(row)
            self.refused(self.desk, " " + row, NoRow)
            self.refused(self.desk, "\t" + row, NoRow)
            names = 2 if row.startswith("check") else 1
            blanks = [place for place, sign in enumerate(row) if sign == " "]
            for place in blanks[:names]:
                for other in ("  ", "\t", "\n", ", "):
                    self.refused(self.desk, row[:place] + other + row[place + 1:], NoRow)
            # Behind the one blank all is the text's.
            place = blanks[names]
            self.refused(self.desk, row[:place] + "  " + row[place + 1:], NoText)
            for other in ("\t", "\n"):
                self.refused(self.desk, row[:place] + other + row[place + 1:], NoRow)
            for place in blanks[names + 1:]:
                for other in ("  ", "\t", "\n", ""):
                    self.refused(self.desk, row[:place] + other + row[place + 1:], NoText)
            for behind in (" ", "\n", "\t", " x", ")"):
                self.refused(self.desk, row + behind, NoText)
        for row in ("planx 2:0", "planx 2:0 3:1", "plan x2:0", "plan x2:0 3:1", "checkboth six in 0"):
            self.refused(self.desk, row, NoRow)
        # By their form these rows have two names, `by` and `sixby` among them, and the rest is their text.
        self.refused(self.desk, "check bothsix by 2 (in 0, in 1)", NoText)
        self.refused(self.desk, "check both sixby 2 (in 0, in 1)", NoText)

    def test_words_left_out_and_put_in(self):
        for row in ("awake even 0", "meet even even 0 0", "sure even even", "worst even even", "pair x 2 3",
                    "grid x 2"):
            words = row.split(" ")
            for place in range(len(words)):
                self.refused(self.desk, " ".join(words[:place] + words[place + 1:]), NoRow)
            for place in range(len(words) + 1):
                for word in ("0", "even", "x", "-1", "nobody"):
                    self.refused(self.desk, " ".join(words[:place] + [word] + words[place:]), NoRow)
        for row in ("check in 0", "check 0", "plan 2:0", "plan never", "check even even",
                    "plan x", "check even", "check", "plan", "in 0", "2:0", "x 2:0", "even even in 0"):
            self.refused(self.desk, row, NoRow)
        # By its form this row's second name is `in`, and its text `0`.
        self.refused(self.desk, "check even in 0", NoText)
        self.refused(self.desk, "check even even even in 0", NoText)
        self.refused(self.desk, "plan x x 2:0", NoText)

    def test_texts_of_nothing(self):
        self.refused(self.desk, "plan x ", NoText)
        self.refused(self.desk, "plan x", NoRow)
        self.refused(self.desk, "plan  ", NoRow)
        self.refused(self.desk, "plan ", NoRow)
        self.refused(self.desk, "check even six ", NoText)
        self.refused(self.desk, "check even six", NoRow)
        self.refused(self.desk, "check even ", NoRow)
        self.refused(self.desk, "check even  ", NoRow)
        self.refused(self.desk, "check  six in 0", NoRow)

    def test_texts_that_are_none(self):
        for text in ("x", "7", "7:2 x", "07:2", "7:-2", "1:2:3:4", "never ", "never never", "2:0  2:1", "Never",
                     "9" * 101 + ":0", " ".join(["1:0"] * 13)):
            self.refused(self.desk, "plan x " + text, NoText)
        for text in ("0:0", "2:2", "2:0:3", "1:0 1:1", "0:0:0"):
            self.refused(self.desk, "plan x " + text, NoPlan)
        for text in ("in", "in x", "in  0", "by 2", "by 2 (in 0", "by 2 (in 0,in 1)", "in -1", "in 00", "in 0 ",
                     "by 2 (" * 41 + ")" * 41, "never", "2:0"):
            self.refused(self.desk, "check even six " + text, NoText)

    def test_other_rows(self):
        for row in ("", " ", "  ", "\t", "\n", "x", "Plan x 2:0", "PLAN x 2:0", "plans x 2:0", "keep x 2:0", "even",
                    "even even", "kept", "never", "Awake even 0", "next even 0", "lonely even even",
                    "lets even even in 0", "sure\teven\teven", "plan\tx\t2:0", "grids x 2",
                    "pairs x 2 3", "name", "text", "None", "turn"):
            self.refused(self.desk, row, NoRow)

    def test_what_is_no_text(self):
        for row in (None, 0, 1, -1, True, False, HUNDRED, 1.5, [], ["plan", "x", "2:0"], ("sure", "even", "even"), {},
                    {"plan": 1}, b"plan x 2:0", bytearray(b"sure even even"), object(), Desk, Desk(), set(), len):
            self.refused(self.desk, row, NoRow)

    def test_too_many(self):
        self.refused(self.desk, "sure long long", TooMany)
        self.refused(self.desk, "sure great great", TooMany)
        self.answered(self.desk, "worst long even", "1 at 0 from 1")
        self.refused(self.desk, "worst long six", TooMany)
        self.refused(self.desk, "worst long long", TooMany)
        self.refused(self.desk, "worst great always", TooMany)
        self.refused(self.desk, "worst none great", TooMany)
        desk = desk_of(["plan a 5000:0:2501", "plan c 5001:0", "plan d 141:0:71", "plan e 142:0:72",
                        "plan f 20000:0", "plan g 20001:0", "plan h 1:0"])
        self.answered(desk, "sure a a", "sure within 5000 by in 0")
        self.refused(desk, "sure c c", TooMany)
        self.answered(desk, "worst d d", "140 at 70 from 71")
        self.refused(desk, "worst e e", TooMany)
        self.answered(desk, "worst f h", "19999 at 0 from 1")
        self.refused(desk, "worst g h", TooMany)

    def test_the_first_of_several_refusals(self):
        orders = (
            # NoRow ahead of NoText, NoPlan, NoPrimes, NoName and TooMany.
            ("plan X x", NoRow), ("plan  ", NoRow), ("plan abcdefghi ", NoRow), ("check even Six in", NoRow),
            ("check Even six in", NoRow), ("check Even six ", NoRow),
            ("plan X 0:0", NoRow), ("grid X 0", NoRow), ("grid x 0 ", NoRow), ("grid x 00", NoRow),
            ("pair X 4 4", NoRow), ("pair x 4 04", NoRow), ("pair x 4 4 ", NoRow), ("pair x -4 4", NoRow),
            ("pair x 4 " + "4" * 13, NoRow), ("pair x " + "4" * 13 + " 4", NoRow),
            ("awake nobody x", NoRow), ("awake nobody -0", NoRow), ("awake nobody", NoRow), ("awake nobody 1 ", NoRow),
            ("meet nobody even 0 x", NoRow), ("meet even nobody x 0", NoRow), ("meet nobody Even 0 0", NoRow),
            ("sure nobody Even", NoRow), ("sure nobody", NoRow), ("worst Even nobody", NoRow),
            ("check nobody Even in 0", NoRow), ("check nobody Even x", NoRow), ("check nobody nobody", NoRow),
            ("sure long Long", NoRow), ("sure great great ", NoRow), ("worst long long x", NoRow),
            # NoText ahead of NoPlan and NoName.
            ("plan x 0:0 x", NoText), ("plan x 0:0 ", NoText), ("plan x  0:0", NoText),
            ("plan x " + " ".join(["0:0"] * 13), NoText),
            ("check nobody even x", NoText), ("check even nobody ", NoText), ("check nobody nobody in 00", NoText),
            ("check nobody even " + "by 2 (" * 41 + ")" * 41, NoText),
            # NoName ahead of TooMany.
            ("sure long nobody", NoName), ("sure nobody great", NoName), ("worst great nobody", NoName),
            ("worst nobody long", NoName),
        )
        for row, kind in orders:
            self.refused(self.desk, row, kind)


if __name__ == "__main__":
    unittest.main()

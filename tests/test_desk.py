"""Stage 10: the desk."""

import unittest

from helper import Dice, Odd, odd_things, refused, thrown_job, thrown_paper
from slanttiles.clashes import find_clash
from slanttiles.desk import Desk
from slanttiles.errors import NoGrid, NoJob, NoPaper, NoTerm, NoText
from slanttiles.makers import make_paper
from slanttiles.paper_texts import read_job, read_paper, show_job, show_paper
from slanttiles.plain_way import plain_round, plain_worths
from slanttiles.runs import Run
from slanttiles.shows import show_clash

# Two places, each one more than its own place one round back, three rounds: 4 5, 5 6, 6 7.
APART = "grid 2 round\nterm ([1 0] + 1)\nmodulus 97\nrounds 3\nfirst 3 4"
# Three places, each of the one ahead and ten times its own, two rounds: 15 21 32, then 155 225 341.
LINE = "grid 3 fixed 5\nterm ([1 -1] + (10 * [1 0]))\nmodulus 1000\nrounds 2\nfirst 1 2 3"
BOX = "grid 2 mirror, 2 fixed 7\nterm ([1 -1 0] + [2 0 1])\nmodulus 97\nrounds 3\nfirst 1 2 3 4\nfirst 5 6 7 8"
EMPTY = "grid 2 round\nterm [1 0]\nmodulus 97\nrounds 0\nfirst 3 4"
OWN = "slot 0 1@0\nslot 1 1@1\nslot 2 2@0\nslot 3 2@1\nslot 4 3@0\nslot 5 3@1\n"
ONE_SLOT = "slot 0 1@0 1@1 2@0 2@1 3@0 3@1\n"
SIDES = "piece 1@0 2@0 3@0\npiece 1@1 2@1 3@1\nhand 0\nhand 1\n"
JOB_ROWS = [
    "paper\nhand\nwanted", "make 1 1 0 1", "text", "worth 1@0", "round 1", "leans 1@0", "readers 1@0", "reach",
]
PAPER_ROWS = [
    "paper", "clash", "show", "waves", "times", "fit", "step 0", "go", "ready", "held 0", "over", "again",
]


def desk_with(job, paper=None):
    desk = Desk()
    desk.say("job\n" + job)
    if paper is not None:
        desk.say("paper\n" + paper)
    return desk


class Case(unittest.TestCase):
    def says(self, desk, *pairs):
        """Check the answers of rows that come in pairs with them."""
        for row, answer in zip(pairs[::2], pairs[1::2]):
            told = desk.say(row)
            self.assertIs(type(told), str)
            self.assertEqual(told, answer, row)


class Jobs(Case):
    def test_job_and_text(self):
        desk = Desk()
        for text in [APART, LINE, BOX, EMPTY]:
            self.says(desk, "job\n" + text, "ok", "text", text)

    def test_worth(self):
        desk = desk_with(LINE)
        self.says(desk, "worth 1@0", "15", "worth 1@1", "21", "worth 2@0", "155", "worth 2@2", "341")
        desk = desk_with(BOX)
        for spot, worth in plain_worths(read_job(BOX)).items():
            self.says(desk, f"worth {spot[0]}@{spot[1][0]}.{spot[1][1]}", str(worth))

    def test_round(self):
        self.says(desk_with(LINE), "round 0", "1,2,3", "round 1", "15,21,32", "round 2", "155,225,341")
        desk = desk_with(BOX)
        self.says(desk, "round -1", "1,2,3,4", "round 0", "5,6,7,8")
        for number in [1, 2, 3]:
            self.says(desk, f"round {number}", ",".join(str(worth) for worth in plain_round(read_job(BOX), number)))
        self.says(desk_with(EMPTY), "round 0", "3,4")
        self.says(desk_with("grid 1 round\nterm 5\nmodulus 97\nrounds 1\nfirst 3"), "round 0", "3", "round 1", "5")

    def test_leans_and_readers(self):
        desk = desk_with(LINE)
        self.says(desk, "leans 1@0", "-", "leans 2@0", "1@0", "leans 2@2", "1@1 1@2")
        self.says(desk, "readers 1@0", "2@0 2@1", "readers 1@2", "2@2", "readers 2@0", "-")
        self.says(desk_with(BOX), "leans 3@1.0", "1@1.1 2@0.0", "readers 1@0.0", "2@0.0 2@1.0")

    def test_reach(self):
        self.says(desk_with(LINE), "reach", "1")
        self.says(desk_with(BOX), "reach", "1,1")
        self.says(desk_with(APART), "reach", "0")
        self.says(desk_with("grid 2 round, 2 round, 2 round\nterm [2 3 0 -9]\nmodulus 9\nrounds 0\nfirst" + " 1" * 8 +
                            "\nfirst" + " 2" * 8), "reach", "2,0,5")


class Papers(Case):
    def test_paper_and_its_text(self):
        text = SIDES + "wait 1 0\n" + OWN + "wanted 3@1"
        self.says(desk_with(APART), "paper\n" + text, "ok", "paper", text, "paper\n" + text, "ok")
        self.says(desk_with(EMPTY), "paper\nhand\nwanted", "ok", "paper", "hand\nwanted")

    def test_make(self):
        desk = desk_with(LINE)
        text = "piece 1@0 1@1 2@0\npiece 1@2 2@1 2@2\nhand 0\nhand 1\nwait 1 0\n" + \
            "slot 0 1@0 2@1\nslot 1 1@1 2@2\nslot 2 2@0\nslot 3 1@2\nwanted 2@0 2@1 2@2"
        self.says(desk, "make 2 2 1 2", "ok", "paper", text, "clash", "none", "ready", "0", "fit", "yes")
        desk = desk_with(BOX)
        job = read_job(BOX)
        wanted = [spot for spot in job.all_spots() if spot[0] == 3]
        self.says(desk, "make 3 1,2 1,1 4", "ok", "paper", show_paper(make_paper(job, 3, [1, 2], [1, 1], 4, wanted)))
        self.says(desk_with(EMPTY), "make 1 1 0 3", "ok", "paper", "hand\nhand\nhand\nwanted", "go", "over")

    def test_a_new_job_keeps_no_paper(self):
        desk = desk_with(APART, SIDES + OWN + "wanted")
        self.says(desk, "job\n" + LINE, "ok")
        for row in PAPER_ROWS:
            refused(self, NoPaper, "none", desk.say, row)
        # Also where it is the same job.
        desk = desk_with(APART, SIDES + OWN + "wanted")
        self.says(desk, "job\n" + APART, "ok")
        refused(self, NoPaper, "none", desk.say, "paper")

    def test_clash(self):
        self.says(desk_with(APART, SIDES + OWN + "wanted"), "clash", "none", "show", "-")
        self.says(desk_with(APART, SIDES + ONE_SLOT + "wanted"), "clash", "late 2@0 1@0 1@1", "show", "0,1,0")
        self.says(desk_with(APART, "piece 1@0 1@0\nhand 0\n" + OWN + "wanted"), "clash", "twice 1@0", "show", "-")
        self.says(desk_with(APART, "piece 1@0\nhand 0\n" + OWN + "wanted"), "clash", "left 1@1", "show", "-")
        self.says(desk_with(APART, SIDES + "wait 0 0\n" + OWN + "wanted"), "clash", "ring 0", "show", "1,1,1")
        early = "piece 2@0 1@0 3@0\npiece 1@1 2@1 3@1\nhand 0\nhand 1\n"
        self.says(desk_with(APART, early + OWN + "wanted"), "clash", "early 2@0 1@0", "show", "0")
        gone = OWN.replace("slot 4 3@0\nslot 5 3@1\n", "slot 4 3@0 3@1\n")
        self.says(desk_with(APART, SIDES + gone + "wanted 3@1"), "clash", "gone 3@1 3@0", "show", "1,1,1,0,0,0")
        both = desk_with(APART, SIDES + "wait 0 1\nwait 1 0\n" + OWN + "wanted")
        self.assertIn(both.say("clash"), ["ring 0,1", "ring 1,0"])
        self.says(both, "show", "-", "go", "stuck", "over", "no")
        self.says(desk_with(BOX, "piece 1@0.0 1@0.0\nhand 0\nslot 0 1@0.0 1@0.1 1@1.0 1@1.1 2@0.0 2@0.1 2@1.0 2@1.1 "
                            "3@0.0 3@0.1 3@1.0 3@1.1\nwanted"), "clash", "twice 1@0.0")

    def test_without_pieces(self):
        self.says(desk_with(EMPTY, "hand\nwanted"), "clash", "none", "show", "-", "waves", "-", "times", "-", "fit", "yes")
        desk = desk_with(APART, "hand\nhand\n" + OWN + "wanted")
        self.says(desk, "clash", "left 1@0", "show", "-", "waves", "-", "times", "-", "fit", "no", "ready", "-", "over", "yes")
        self.says(desk, "go", "over", "held 0", "-")

    def test_waves(self):
        slots = "slot 0 1@0 1@1 1@2 2@0 2@1 2@2\nwanted"
        pieces = "piece 2@1 2@2\npiece 1@0\npiece 1@1 1@2\npiece 2@0\nhand 0 1 2 3\n"
        self.says(desk_with(LINE, pieces + slots), "waves", "1,2; 0,3")
        # By what leans on what, not by waits or hands.
        self.says(desk_with(LINE, pieces + "wait 0 0\nwait 1 3\n" + slots), "waves", "1,2; 0,3", "fit", "yes")
        pieces = "piece 1@0 2@1\npiece 1@1 2@0 2@2\npiece 1@2\nhand 0 1 2\n"
        self.says(desk_with(LINE, pieces + slots), "waves", "ring", "fit", "no")
        self.says(desk_with(APART, SIDES + OWN + "wanted"), "waves", "0,1", "fit", "yes")
        pieces = "piece 1@0\npiece 2@0\npiece 3@0\nhand 0 1 2\n"
        self.says(desk_with(APART, pieces + OWN + "wanted"), "waves", "0; 1; 2", "fit", "no")

    def test_times(self):
        self.says(desk_with(APART, SIDES + OWN + "wanted"), "times", "0-3 0-3")
        self.says(desk_with(APART, SIDES + "wait 0 1\n" + OWN + "wanted"), "times", "3-6 0-3")
        self.says(desk_with(APART, "piece 1@0 1@0\npiece 3@0\nhand\nhand 1 0\n" + OWN + "wanted"), "times", "1-3 0-1")
        desk = desk_with(APART, SIDES + "wait 0 1\nwait 1 0\n" + OWN + "wanted")
        refused(self, NoPaper, "ring", desk.say, "times")

    def test_fit(self):
        self.says(desk_with(APART, SIDES + ONE_SLOT + "wanted"), "fit", "yes")
        self.says(desk_with(APART, "piece 1@0 2@0 3@0\nhand 0\n" + OWN + "wanted"), "fit", "no")
        self.says(desk_with(APART, "piece 2@0 1@0 3@0 1@1 2@1 3@1\nhand 0\n" + OWN + "wanted"), "fit", "no")


class Runs(Case):
    def test_steps(self):
        desk = desk_with(LINE, "piece 1@0 1@1\npiece 1@2\npiece 2@0\npiece 2@1 2@2\nhand 0 2\nhand 1 3\nwait 3 0\n" +
                         "slot 0 1@0\nslot 1 1@1\nslot 2 1@2\nslot 3 2@0\nslot 4 2@1\nslot 119 2@2\nwanted 2@2")
        self.says(desk, "ready", "0,1", "over", "no", "step 1", "1@2 = 32", "ready", "0", "step 0", "1@0 = 15")
        self.says(desk, "held 0", "1@0 = 15", "held 1", "-", "step 0", "1@1 = 21", "ready", "0,1", "step 1", "2@1 = 225")
        self.says(desk, "step 0", "2@0 = 155", "ready", "1", "over", "no", "step 1", "2@2 = 341", "over", "yes", "ready", "-")
        self.says(desk, "go", "over", "held 119", "2@2 = 341", "held 3", "2@0 = 155")

    def test_wrong_reads(self):
        desk = desk_with(LINE, "piece 2@1 1@1 2@2\npiece 1@0 1@2 2@0\nhand 0\nhand 1\n" +
                         "slot 0 1@0\nslot 1 1@1 1@2\nslot 3 2@0\nslot 4 2@1\nslot 5 2@2\nwanted")
        # Nothing is made yet; then 1@1 lies in the slot of 1@2, too.
        self.says(desk, "step 0", "2@1 = 0 wrong 1@0 1@1", "step 0", "1@1 = 21", "step 0", "2@2 = 231 wrong 1@2")
        self.says(desk, "held 1", "1@1 = 21", "step 1", "1@0 = 15", "step 1", "1@2 = 32", "step 1", "2@0 = 155")
        self.says(desk, "held 1", "1@2 = 32", "over", "yes")

    def test_wrong_reads_rise(self):
        # The takes lead to the places 2 and 1, in this order.
        desk = desk_with("grid 3 round\nterm ([1 -1] + [1 1])\nmodulus 97\nrounds 2\nfirst 1 2 4",
                         "piece 2@0\nhand 0\nslot 0 1@0 1@1 1@2 2@0 2@1 2@2\nwanted")
        self.says(desk, "step 0", "2@0 = 0 wrong 1@1 1@2")

    def test_a_spot_that_stands_twice(self):
        desk = desk_with(APART, "piece 1@0 2@0 1@1 2@0\nhand 0\nslot 0 1@0 1@1\nslot 2 2@0\nslot 3 2@1\nslot 4 3@0\n"
                         "slot 5 3@1\nwanted")
        self.says(desk, "step 0", "1@0 = 4", "step 0", "2@0 = 5", "step 0", "1@1 = 5", "step 0", "2@0 = 6 wrong 1@0")
        self.says(desk, "held 2", "2@0 = 6")

    def test_held_of_any_number(self):
        desk = desk_with(APART, SIDES + OWN + "wanted")
        self.says(desk, "go", "over", "held 5", "3@1 = 7", "held 6", "-", "held 120", "-", "held -1", "-")
        self.says(desk, "held 9999999999999", "-", "held -9999999999999", "-")

    def test_go(self):
        self.says(desk_with(APART, SIDES + OWN + "wanted"), "step 1", "1@1 = 5", "go", "over", "over", "yes", "go", "over")
        desk = desk_with(APART, SIDES + "wait 1 1\n" + OWN + "wanted")
        self.says(desk, "step 0", "1@0 = 4", "go", "stuck", "over", "no", "go", "stuck", "held 4", "3@0 = 6")

    def test_runs_at_their_beginning(self):
        text = SIDES + OWN + "wanted"
        desk = desk_with(APART, text)
        for row in ["again", "paper\n" + text, "make 1 2 0 2"]:
            self.says(desk, "go", "over", "held 0", "1@0 = 4", row, "ok", "over", "no", "held 0", "-")
            self.assertEqual(desk.say("ready")[0], "0")
        self.says(desk, "again", "ok")
        # The paper stays behind again.
        desk = desk_with(APART, text)
        self.says(desk, "step 1", "1@1 = 5", "again", "ok", "paper", text, "step 1", "1@1 = 5")

    def test_two_desks(self):
        text = SIDES + OWN + "wanted"
        one, other = desk_with(APART, text), desk_with(APART, text)
        self.says(one, "go", "over")
        self.says(other, "over", "no", "held 0", "-", "job\n" + LINE, "ok")
        self.says(one, "text", APART, "paper", text, "over", "yes")
        refused(self, NoJob, "none", Desk().say, "text")

    def test_asking_changes_nothing(self):
        desk = desk_with(APART, SIDES + ONE_SLOT + "wanted 3@1")
        desk.say("step 1")
        rows = ["text", "worth 1@0", "round 1", "leans 2@0", "readers 2@0", "reach", "paper", "clash", "show", "waves",
                "times", "fit", "ready", "held 0", "over"]
        answers = [desk.say(row) for row in rows]
        self.assertEqual([desk.say(row) for row in rows[::-1]], answers[::-1])
        self.says(desk, "step 1", "2@1 = 6")


class Refusals(Case):
    def state(self, desk):
        rows = ["text", "paper", "ready", "over", "held 0", "held 1", "clash"]
        return [desk.say(row) for row in rows]

    def no_row(self, row):
        """Check that a row is none, whatever a desk keeps."""
        desk = desk_with(APART, SIDES + OWN + "wanted 3@0")
        desk.say("step 1")
        before = self.state(desk)
        for keeping in [desk, desk_with(APART), Desk()]:
            refused(self, NoText, 0, keeping.say, row)
        self.assertEqual(self.state(desk), before)

    def test_no_text(self):
        for thing in odd_things() + [None, 0, 5, ["text"], ("text",), b"text", Odd()]:
            if not isinstance(thing, str):
                self.no_row(thing)

    def test_none_of_these_rows(self):
        for row in [
            "", " ", "\n", "x", "job", "jobs", "Text", "TEXT", "tex", "texts", "wanted", "piece 1@0", "grid 2 round",
            "first 1", "hand 0", "none", "ok", "\njob\n" + APART, " job\n" + APART, "job \n" + APART, "job " + APART,
            "text\ntext", "paper \n" + SIDES, "quit", "ring", "stuck", "make", "worth",
        ]:
            self.no_row(row)

    def test_words_too_many_and_blanks(self):
        words = ["text", "reach", "paper", "clash", "show", "waves", "times", "fit", "go", "ready", "over", "again"]
        for word in words:
            for row in [word + " ", " " + word, word + " 0", word + " x", word + "\n", word + " " + word]:
                if row != "paper\n":
                    self.no_row(row)

    def test_numbers(self):
        for word in ["round", "step", "held"]:
            for given in [
                "", " ", " 0 ", "  0", " 0 0", " 00", " 01", " -0", " +1", " x", " 1.", " 1@0", " 0,1", " 12345678901234", " -", "0",
                " 0\n", " 1_0", " --1", "\n0",
            ]:
                self.no_row(word + given)

    def test_spots(self):
        for word in ["worth", "leans", "readers"]:
            for given in [
                "", " ", " 1", " 1@", " @0", " 1@0 ", "  1@0", " 1@0 2@0", " 01@0", " 1@00", " 1@-0", " 1@0.", " 1@0..1", " 1@0,1",
                " 1@0.0.0.0", " x@0", " 1@x", " 1@0@0", " 12345678901234@0", " 1@12345678901234", "1@0", " 1@0\n",
            ]:
                self.no_row(word + given)

    def test_make(self):
        for row in [
            "make", "make 1", "make 1 1", "make 1 1 0", "make 1 1 0 1 1", "make 1 1 0 1 ", "make  1 1 0 1", "make 1  1 0 1",
            "make 01 1 0 1", "make 1 01 0 1", "make 1 1 00 1", "make 1 1 0 01", "make 1 1,01 0 1", "make 1 1, 0 1", "make 1 ,1 0 1",
            "make 1 1,,1 0 1", "make 1 - 0 1", "make x 1 0 1", "make 1 1;1 0 1", "make 1,1 1 0 1", "make 1 1 0 1,1", "make 1 1 -0 1",
            "make 1 1@0 0 1", "make 12345678901234 1 0 1",
        ]:
            self.no_row(row)

    def test_where_no_job_is_kept(self):
        desk = Desk()
        for row in JOB_ROWS + PAPER_ROWS + ["worth 9@9", "paper\n", "paper\nx", "make 0 0 0 0", "step 9", "round 99"]:
            refused(self, NoJob, "none", desk.say, row)
        # A job that is refused is not kept.
        refused(self, NoText, 0, desk.say, "job\nx")
        refused(self, NoJob, "none", desk.say, "text")

    def test_where_no_paper_is_kept(self):
        desk = desk_with(APART)
        for row in PAPER_ROWS + ["step 9", "step -1", "held 500"]:
            refused(self, NoPaper, "none", desk.say, row)
        refused(self, NoText, 0, desk.say, "paper\nx")
        refused(self, NoPaper, "height", desk.say, "make 0 1 0 1")
        refused(self, NoPaper, "none", desk.say, "paper")
        self.says(desk, "text", APART)

    def refuse(self, kind, at, row, job=APART, paper=SIDES + OWN + "wanted 3@0"):
        """Check a refusal, and that it changes nothing."""
        desk = desk_with(job, paper)
        if "1" in desk.say("ready"):
            desk.say("step 1")
        before = self.state(desk)
        refused(self, kind, at, desk.say, row)
        self.assertEqual(self.state(desk), before)

    def test_spots_that_the_job_lacks(self):
        for word in ["worth", "leans", "readers"]:
            for spot in ["0@0", "4@0", "1@2", "-1@0", "1@-1", "1@0.0", "1@0.0.0", "9999999999999@0"]:
                self.refuse(NoJob, "spot", f"{word} {spot}")
            refused(self, NoJob, "spot", desk_with(EMPTY).say, word + " 1@0")
            refused(self, NoJob, "spot", desk_with(BOX).say, word + " 1@0")

    def test_rounds(self):
        for number in ["-1", "4", "9999999999999", "-9999999999999"]:
            self.refuse(NoJob, "rounds", "round " + number)
        refused(self, NoJob, "rounds", desk_with(BOX).say, "round -2")
        refused(self, NoJob, "rounds", desk_with(EMPTY).say, "round 1")

    def test_steps(self):
        for hand in ["2", "-1", "-2", "4", "9999999999999"]:
            self.refuse(NoPaper, "step", "step " + hand)
        self.refuse(NoPaper, "step", "step 1", paper=SIDES + "wait 1 0\n" + OWN + "wanted")
        desk = desk_with(APART, SIDES + OWN + "wanted")
        self.says(desk, "go", "over")
        refused(self, NoPaper, "step", desk.say, "step 0")

    def test_jobs(self):
        self.refuse(NoText, 0, "job\n")
        self.refuse(NoText, 0, "job\n\n" + APART)
        self.refuse(NoText, 5, "job\n" + APART + "\n")
        self.refuse(NoText, 2, "job\n" + APART.replace("modulus", "module"))
        self.refuse(NoGrid, 0, "job\n" + APART.replace("grid 2", "grid 0"))
        self.refuse(NoTerm, "back", "job\n" + APART.replace("[1 0]", "[4 0]"))
        self.refuse(NoJob, "lines", "job\n" + APART.replace("[1 0]", "[1 0 0]"))
        self.refuse(NoJob, "first", "job\n" + APART.replace("first 3 4", "first 3 97"))

    def test_papers(self):
        self.refuse(NoText, 0, "paper\n")
        self.refuse(NoText, 4, "paper\n" + SIDES)
        self.refuse(NoText, 2, "paper\n" + SIDES.replace("hand 0", "hand x") + OWN + "wanted")
        self.refuse(NoText, 11, "paper\n" + SIDES + OWN + "wanted\n")
        self.refuse(NoPaper, "pieces", "paper\n" + SIDES.replace("3@1", "4@1") + OWN + "wanted")
        self.refuse(NoPaper, "hands", "paper\n" + SIDES.replace("hand 1", "hand") + OWN + "wanted")
        self.refuse(NoPaper, "waits", "paper\n" + SIDES + "wait 0 2\n" + OWN + "wanted")
        self.refuse(NoPaper, "slots", "paper\n" + SIDES + "wanted")
        self.refuse(NoPaper, "wanted", "paper\n" + SIDES + OWN + "wanted 3@0 3@0")

    def test_makes(self):
        for word, row in [
            ("height", "make 0 1 0 1"), ("height", "make 13 0 0 0"), ("height", "make -1 1 0 1"), ("widths", "make 1 0 0 1"),
            ("widths", "make 1 1,1 0,0 1"), ("widths", "make 1 10 99 9"), ("skews", "make 1 1 -1 1"), ("skews", "make 1 1 0,0 1"),
            ("skews", "make 1 1 10 9"), ("hands", "make 1 1 0 0"), ("hands", "make 1 1 0 5"), ("hands", "make 1 1 0 -1"),
        ]:
            self.refuse(NoPaper, word, row)

    def test_times(self):
        self.refuse(NoPaper, "ring", "times", paper=SIDES + "wait 0 0\n" + OWN + "wanted")


class Whole(Case):
    def test_jobs_and_papers_by_texts_alone(self):
        dice = Dice(233)
        let_by = 0
        for _ in range(150):
            job = thrown_job(dice, 24)
            paper = thrown_paper(dice, job, dice.one_of([3, 8, 40, 120]))
            if dice.below(2):
                wanted = [spot for spot in job.all_spots() if dice.below(3) == 0]
                paper = make_paper(job, 1 + dice.below(4), [2] * job.grid.lines(), [1] * job.grid.lines(), 3, wanted)
            desk = desk_with(show_job(job), show_paper(paper))
            clash = find_clash(paper)
            self.assertEqual(desk.say("clash") == "none", clash is None)
            if clash is None:
                let_by += 1
                self.run_by_any_steps(dice, desk, job, paper)
            else:
                self.says(desk, "show", ",".join(str(hand) for hand in show_clash(paper)) or "-")
        self.assertGreater(let_by, 60)

    def run_by_any_steps(self, dice, desk, job, paper):
        """Step a desk's run by any hands that are ready, and see the wanted worths of the plain way."""
        while desk.say("ready") != "-":
            hand = dice.one_of(desk.say("ready").split(","))
            self.assertNotIn("wrong", desk.say("step " + hand))
        self.says(desk, "over", "yes")
        for number, place in paper.wanted:
            spot = f"{number}@" + ".".join(str(along) for along in place)
            worth = desk.say("worth " + spot)
            self.assertEqual(worth, str(plain_worths(job)[(number, place)]))
            self.says(desk, f"held {paper.slots[(number, place)]}", f"{spot} = {worth}")

    def test_read_papers_run_as_the_written_ones(self):
        dice = Dice(239)
        for _ in range(60):
            job = thrown_job(dice, 16)
            paper = thrown_paper(dice, job, 4)
            read = read_paper(read_job(show_job(job)), show_paper(paper))
            one, other = Run(paper), Run(read)
            choices = [dice.below(100) for _ in job.all_spots()]
            one.go(choices)
            other.go(choices)
            self.assertEqual(one.done_spots(), other.done_spots())
            self.assertEqual(one.wrong_reads(), other.wrong_reads())
            self.assertEqual([one.told(spot) for spot in job.all_spots()], [other.told(spot) for spot in job.all_spots()])


if __name__ == "__main__":
    unittest.main()

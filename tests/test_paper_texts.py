"""Stage 10: texts of papers."""

import re
import unittest

from helper import Dice, is_same, odd_things, own_slots, paper_values, plain_job, refused, thrown_job, thrown_paper
from slanttiles.errors import NoPaper, NoText, TileError
from slanttiles.makers import make_paper
from slanttiles.paper_texts import read_paper, show_paper
from slanttiles.papers import Paper

APART = plain_job([2], [("round",)], "[1 0]", 2)
A0, A1, B0, B1 = APART.all_spots()
EMPTY = plain_job([2], [("round",)], "[1 0]", 0)
BOX = plain_job([2, 1, 2], [("round",)] * 3, "[1 0 0 0]", 1)
FLAT = plain_job([5, 8], [("round",), ("round",)], "7", 3)
PLAIN = "piece 1@0 2@0\npiece 1@1 2@1\nhand 0\nhand 1\nwait 1 0\nslot 0 1@0 2@0\nslot 7 1@1 2@1\nwanted 2@1 2@0"
NUMBER = r"(?:0|-?[1-9][0-9]{0,12})"
SPOT = rf"{NUMBER}@{NUMBER}(?:\.{NUMBER}){{0,2}}"
FORMS = {
    "piece": rf"piece(?: {SPOT})+", "hand": rf"hand(?: {NUMBER})*", "wait": rf"wait {NUMBER} {NUMBER}",
    "slot": rf"slot {NUMBER}(?: {SPOT})+", "wanted": rf"wanted(?: {SPOT})*",
}


def spots_in(words):
    """The spots of words that are written so."""
    halves = [word.split("@") for word in words]
    return [(int(one), tuple(int(number) for number in other.split("."))) for one, other in halves]


def first_wrong_row(text):
    """The number that NoText tells by the document's words, None where the text is written so."""
    rows = text.split("\n")
    words = []
    slots, placed = [], []
    for at, row in enumerate(rows):
        word = row.split(" ")[0]
        if word not in FORMS or not re.fullmatch(FORMS[word], row):
            return at
        words.append("piece hand wait slot wanted".split().index(word))
        if words != sorted(words) or words.count(4) > 1 or (word in ["wait", "slot", "wanted"] and 1 not in words):
            return at
        if word == "slot":
            spots = spots_in(row.split(" ")[2:])
            slots.append(int(row.split(" ")[1]))
            placed += spots
            rising = sorted(set(spots)) == spots and sorted(set(slots)) == slots
            if not rising or len(set(placed)) != len(placed):
                return at
    return None if 4 in words else len(rows)


def made_by_values(job, text):
    """The paper of a text that is written so, made straight of its values."""
    rows = [row.split(" ") for row in text.split("\n")]
    numbers = {word: [[int(one) for one in row[1:]] for row in rows if row[0] == word] for word in ["hand", "wait"]}
    pieces = [spots_in(row[1:]) for row in rows if row[0] == "piece"]
    slots = {spot: int(row[1]) for row in rows if row[0] == "slot" for spot in spots_in(row[2:])}
    waits = [tuple(wait) for wait in numbers["wait"]]
    return Paper(job, pieces, numbers["hand"], waits, slots, spots_in(rows[-1][1:]))


class ShowPaper(unittest.TestCase):
    def shows(self, text, paper):
        values = paper_values(paper)
        self.assertTrue(is_same(show_paper(paper), text), show_paper(paper))
        told = read_paper(paper.job, text)
        self.assertIs(type(told), Paper)
        self.assertIs(told.job, paper.job)
        self.assertTrue(is_same(paper_values(told), values))
        self.assertTrue(is_same(paper_values(paper), values))
        self.assertEqual(show_paper(told), text)

    def test_row_by_row(self):
        slots = {B1: 7, A0: 0, B0: 0, A1: 7}
        self.shows(PLAIN, Paper(APART, [[A0, B0], [A1, B1]], [[0], [1]], [(1, 0)], slots, [B1, B0]))
        text = "piece 2@1 1@0 2@0\npiece 1@1\nhand 1 0\nwait 0 1\nwait 1 1\nwait 0 1\n" + \
            "slot 0 2@1\nslot 9 2@0\nslot 10 1@1\nslot 119 1@0\nwanted 1@0"
        slots = {A0: 119, A1: 10, B0: 9, B1: 0}
        self.shows(text, Paper(APART, [[B1, A0, B0], [A1]], [[1, 0]], [(0, 1), (1, 1), (0, 1)], slots, [A0]))

    def test_rows_without_numbers_or_spots(self):
        text = "piece 1@0\nhand\nhand 0\nhand\nhand\nslot 0 1@0 1@1 2@0 2@1\nwanted"
        self.shows(text, Paper(APART, [[A0]], [[], [0], [], []], [], {spot: 0 for spot in APART.all_spots()}, []))
        text = "hand\nslot 5 1@0 1@1 2@0 2@1\nwanted"
        self.shows(text, Paper(APART, [], [[]], [], {spot: 5 for spot in APART.all_spots()}, []))
        self.shows("hand\nwanted", Paper(EMPTY, [], [[]], [], {}, []))
        self.shows("hand\nhand\nwanted", Paper(EMPTY, [], [[], []], [], {}, []))

    def test_papers_with_clashes(self):
        text = "piece 1@0 1@0 2@1\npiece 1@0\nhand 0 1\nwait 0 0\nslot 0 1@0 1@1 2@0 2@1\nwanted 2@0"
        self.shows(text, Paper(APART, [[A0, A0, B1], [A0]], [[0, 1]], [(0, 0)], {s: 0 for s in APART.all_spots()}, [B0]))

    def test_places_of_two_and_three_numbers(self):
        a, b, c, d = BOX.all_spots()
        text = "piece 1@1.0.1 1@0.0.0\nhand 0\nslot 0 1@0.0.0\nslot 1 1@0.0.1\nslot 2 1@1.0.0\nslot 3 1@1.0.1\nwanted 1@0.0.1"
        self.shows(text, Paper(BOX, [[d, a]], [[0]], [], own_slots(BOX), [b]))
        paper = make_paper(FLAT, 3, [5, 8], [0, 0], 2, [(3, (4, 7))])
        rows = show_paper(paper).split("\n")
        self.assertTrue(rows[0].startswith("piece 1@0.0 1@0.1 1@0.2"))
        self.assertEqual(rows[-1], "wanted 3@4.7")
        self.shows("\n".join(rows), paper)

    def test_400_waits_and_120_pieces(self):
        spots = FLAT.all_spots()
        waits = [(p, q) for p in range(119, 98, -1) for q in range(20)][:400]
        paper = Paper(FLAT, [[spot] for spot in spots], [list(range(119, -1, -1)), []], waits, own_slots(FLAT), spots[::-1])
        text = show_paper(paper)
        self.assertEqual(text.count("\nwait "), 400)
        self.shows(text, paper)
        refused(self, NoPaper, "waits", read_paper, FLAT, text.replace("\nwait 119 0", "\nwait 119 0\nwait 119 0"))
        refused(self, NoPaper, "pieces", read_paper, FLAT, "piece 1@0.0\n" + text)

    def test_thrown_papers(self):
        dice = Dice(227)
        for _ in range(100):
            job = thrown_job(dice, 40)
            paper = thrown_paper(dice, job, dice.one_of([1, 3, 8, 120]))
            self.shows(show_paper(paper), paper)
            self.assertIsNone(first_wrong_row(show_paper(paper)))


class ReadPaper(unittest.TestCase):
    def no_text(self, at, text):
        self.assertEqual(first_wrong_row(text), at, text)
        refused(self, NoText, at, read_paper, APART, text)

    def with_row(self, at, row):
        """The plain text with another row."""
        rows = PLAIN.split("\n")
        rows[at] = row
        return "\n".join(rows)

    def test_no_text_at_all(self):
        for thing in odd_things() + [None, 0, 5, ["hand"], ("hand",), b"hand"]:
            if not isinstance(thing, str):
                refused(self, NoText, None, read_paper, APART, thing)

    def test_rows_that_lack(self):
        rows = PLAIN.split("\n")
        self.no_text(0, "")
        for many in range(1, len(rows)):
            self.no_text(many, "\n".join(rows[:many]))
        self.no_text(1, "hand")

    def test_line_ends_ahead_and_behind(self):
        self.no_text(0, "\n" + PLAIN)
        self.no_text(8, PLAIN + "\n")
        self.no_text(0, "\n")
        self.no_text(2, PLAIN.replace("\nhand 0", "\n\nhand 0"))

    def test_rows_out_of_their_order(self):
        rows = PLAIN.split("\n")
        self.no_text(2, "\n".join([rows[0], rows[2], rows[1]] + rows[3:]))
        self.no_text(4, "\n".join(rows[:3] + [rows[4], rows[3]] + rows[5:]))
        self.no_text(5, "\n".join(rows[:4] + [rows[5], rows[4]] + rows[6:]))
        self.no_text(7, "\n".join(rows[:6] + [rows[7], rows[6]]))
        self.no_text(5, "\n".join(rows[:5] + rows[:1] + rows[5:]))

    def test_a_hand_row_at_least(self):
        rows = PLAIN.split("\n")
        for behind in [rows[4:], rows[5:], rows[7:]]:
            self.no_text(2, "\n".join(rows[:2] + behind))
            self.no_text(0, "\n".join(behind))

    def test_the_wanted_row_is_the_last(self):
        self.no_text(8, PLAIN + "\nwanted")
        self.no_text(8, PLAIN + "\nwanted 2@1 2@0")
        for row in PLAIN.split("\n") + ["", "x", "wanted 2@1\nx"]:
            self.no_text(8, PLAIN + "\n" + row)

    def test_first_words(self):
        for row in ["", " ", "x", "pieces 1@0", "Piece 1@0", " piece 1@0", "1@0", "piece\t1@0", "first 1", "job", "slot"]:
            self.no_text(0, row + "\n" + PLAIN)
            self.no_text(1, self.with_row(1, row))

    def test_pieces(self):
        for row in [
            "piece", "piece ", "piece  1@0", "piece 1@0 ", "piece 1@0  2@0", "piece 1", "piece 1@", "piece @0", "piece 1@0@0",
            "piece 1 @0", "piece 1@0.", "piece 1@.0", "piece 1@0..0", "piece 1@0.0.0.0", "piece 01@0", "piece 1@00",
            "piece 1@-0", "piece -0@1", "piece 1@0,1", "piece 1@x", "piece 12345678901234@0", "piece 1@12345678901234",
            "piece 1@0 x", "piece +1@0", "piece 1@0.0.0.x",
        ]:
            self.no_text(1, self.with_row(1, row))

    def test_hands(self):
        for row in ["hand ", "hand  0", "hand 0 ", "hand 00", "hand -0", "hand 0,1", "hand x", "hand 12345678901234", "hand 1@0"]:
            self.no_text(2, self.with_row(2, row))

    def test_waits(self):
        for row in [
            "wait", "wait ", "wait 1", "wait 1 0 0", "wait 1  0", "wait 1 0 ", "wait 01 0", "wait 1 -0", "wait 1,0", "wait x 0",
            "wait 1 12345678901234", "wait 1@0 0",
        ]:
            self.no_text(4, self.with_row(4, row))

    def test_slots(self):
        for row in [
            "slot", "slot ", "slot 0", "slot 0 ", "slot 1@0", "slot 00 1@0", "slot -0 1@0", "slot 0  1@0", "slot 0 1@0 ",
            "slot 0 x", "slot x 1@0", "slot 0 1@0 2", "slot 12345678901234 1@0", "slot 0 1@0.0.0.0", "slot 0 0 1@0",
        ]:
            self.no_text(5, self.with_row(5, row))

    def test_slots_that_do_not_rise(self):
        rows = PLAIN.split("\n")
        self.no_text(6, "\n".join(rows[:5] + [rows[6], rows[5], rows[7]]))
        self.no_text(6, self.with_row(6, "slot 0 1@1 2@1"))
        self.no_text(6, self.with_row(6, "slot -7 1@1 2@1"))
        self.no_text(7, "\n".join(rows[:5] + ["slot 0 1@0", "slot 10 2@0", "slot 7 1@1 2@1", "wanted"]))

    def test_spots_of_a_slot_that_do_not_rise(self):
        for words in ["2@0 1@0", "1@0 1@0", "1@0 2@0 2@0", "1@0 2@1 2@0", "2@0 10@0 9@0", "1@0.1 1@0"]:
            self.no_text(5, self.with_row(5, "slot 0 " + words))

    def test_a_spot_with_two_slots(self):
        self.no_text(6, self.with_row(6, "slot 7 1@1 2@0 2@1"))
        self.no_text(6, self.with_row(6, "slot 7 1@0"))
        rows = PLAIN.split("\n")
        self.no_text(7, "\n".join(rows[:7] + ["slot 8 1@0", "wanted"]))

    def test_wanted(self):
        for row in ["wanted ", "wanted  2@1", "wanted 2@1 ", "wanted 2", "wanted 2@1,2@0", "wanted 02@1", "wanted 2@0.0.0.0"]:
            self.no_text(7, self.with_row(7, row))

    def test_the_form_goes_ahead_of_the_paper(self):
        self.no_text(7, self.with_row(7, "wanted x").replace("piece 1@0", "piece 9@9").replace("hand 0", "hand 5"))

    def no_paper(self, word, text, job=APART):
        self.assertIsNone(first_wrong_row(text), text)
        refused(self, NoPaper, word, read_paper, job, text)

    def test_papers_that_are_refused(self):
        for row in ["piece 0@0", "piece 3@0", "piece 1@2", "piece 1@0.0", "piece -1@0", "piece 1@-1", "piece 1@0.0.0"]:
            self.no_paper("pieces", self.with_row(1, row))
        for row in ["hand", "hand 1", "hand 0 0", "hand 2", "hand -1", "hand 0 1", "hand 9999999999999", "hand 0\nhand\nhand\nhand"]:
            self.no_paper("hands", self.with_row(2, row))
        for row in ["wait 0 2", "wait -1 0", "wait 2 0", "wait 9999999999999 0"]:
            self.no_paper("waits", self.with_row(4, row))
        for row in ["slot 0 1@0", "slot 0 1@0 2@0 3@0", "slot -1 1@0 2@0", "slot 0 1@0 1@0.0 2@0", "slot 0 0@0 1@0 2@0"]:
            self.no_paper("slots", self.with_row(5, row))
        self.no_paper("slots", self.with_row(6, "slot 120 1@1 2@1"))
        self.no_paper("slots", "hand\nwanted")
        for row in ["wanted 2@1 2@1", "wanted 3@0", "wanted 1@0.0", "wanted -1@0"]:
            self.no_paper("wanted", self.with_row(7, row))
        self.no_paper("pieces", PLAIN, EMPTY)
        self.no_paper("pieces", PLAIN, FLAT)
        self.no_paper("hands", "hand 0\nwanted", EMPTY)

    def test_which_is_told_where_several_are_wrong(self):
        rows = "piece 9@0\nhand 5\nwait 9 9\nslot 500 1@0\nwanted 9@9".split("\n")
        right = "piece 1@0\nhand 0\nwait 0 0\nslot 0 1@0 1@1 2@0 2@1\nwanted 2@0".split("\n")
        for at, word in enumerate(["pieces", "hands", "waits", "slots", "wanted"]):
            self.no_paper(word, "\n".join(right[:at] + rows[at:]))
        self.assertIsNone(first_wrong_row("\n".join(right)))
        read_paper(APART, "\n".join(right))

    def test_changed_texts(self):
        dice = Dice(229)
        kinds = []
        signs = "0123456789- .@\nx" + "piecehandwaitslotwanted"
        for _ in range(4000):
            job = dice.one_of([APART, thrown_job(dice, 8)])
            text = PLAIN if job == APART and dice.below(2) else show_paper(thrown_paper(dice, job, 3))
            for _ in range(1 + dice.below(2)):
                at = dice.below(len(text) + 1)
                text = text[:at] + dice.one_of(["", dice.one_of(signs)]) + text[at + dice.below(3):]
            if dice.below(3) == 0:
                rows = text.split("\n")
                rows.insert(dice.below(len(rows)), dice.one_of(rows))
                text = "\n".join(rows)
            wrong = first_wrong_row(text)
            if wrong is not None:
                refused(self, NoText, wrong, read_paper, job, text)
                kinds.append("text")
                continue
            try:
                paper = made_by_values(job, text)
            except TileError as error:
                refused(self, type(error), error.at, read_paper, job, text)
                kinds.append("refused")
            else:
                self.assertTrue(is_same(paper_values(read_paper(job, text)), paper_values(paper)))
                self.assertEqual(show_paper(paper), text)
                kinds.append("paper")
        for kind in ["text", "refused", "paper"]:
            self.assertGreater(kinds.count(kind), 50, kind)


if __name__ == "__main__":
    unittest.main()

"""Stage 10: texts of jobs."""

import re
import unittest

from helper import RIMS, SIZES, Dice, is_same, made, odd_things, refused, thrown_job
from slanttiles.errors import NoGrid, NoJob, NoTerm, NoText, TileError
from slanttiles.jobs import Job
from slanttiles.paper_texts import read_job, show_job
from slanttiles.places import Grid
from slanttiles.plain_way import plain_worths
from slanttiles.term_texts import read_term

EXAMPLE = """grid 4 mirror, 2 fixed 7
term ([1 -1 0] + [2 0 1])
modulus 97
rounds 3
first 1 2 3 4 5 6 7 8
first 0 0 0 0 9 9 9 9"""
PLAIN = "grid 2 round\nterm [1 0]\nmodulus 97\nrounds 2\nfirst 3 4"
NUMBER = r"(?:0|-?[1-9][0-9]{0,12})"
LINE = rf"{NUMBER} (?:mirror|round|fixed {NUMBER})"
FORMS = [rf"grid {LINE}(?:, {LINE})*", r"term (.*)", rf"modulus {NUMBER}", rf"rounds {NUMBER}"]
FIRST = rf"first(?: {NUMBER})+"


def job_values(job):
    """All that a job is made of."""
    return [job.grid.sizes, job.grid.rims, job.term.shown(), job.modulus, job.rounds, job.first]


def is_term_text(text):
    """Whether a text is written as a term, whatever its numbers."""
    try:
        read_term(text)
    except NoText:
        return False
    except NoTerm:
        return True
    return True


def first_wrong_row(text):
    """The number that NoText tells by the document's words, None where the text is written so."""
    rows = text.split("\n")
    for at in range(max(len(rows), 4)):
        if at == len(rows):
            return at
        found = re.fullmatch(FORMS[at] if at < 4 else FIRST, rows[at])
        if not found or (at == 1 and not is_term_text(found.group(1))):
            return at
    return None


def made_by_values(text):
    """The job of a text that is written so, made straight of its values."""
    rows = text.split("\n")
    lines = [line.split(" ") for line in rows[0][5:].split(", ")]
    rims = [("fixed", int(line[2])) if line[1] == "fixed" else (line[1],) for line in lines]
    grid = Grid([int(line[0]) for line in lines], rims)
    first = [[int(word) for word in row.split(" ")[1:]] for row in rows[4:]]
    return Job(grid, read_term(rows[1][5:]), int(rows[2][8:]), int(rows[3][7:]), first)


class ShowJob(unittest.TestCase):
    def shows(self, text, job):
        self.assertTrue(is_same(show_job(job), text), show_job(job))
        told = read_job(text)
        self.assertIs(type(told), Job)
        self.assertTrue(is_same(job_values(told), job_values(job)))
        self.assertTrue(is_same(plain_worths(told), plain_worths(job)))
        self.assertEqual(show_job(told), text)

    def test_the_documents_example(self):
        first = [[1, 2, 3, 4, 5, 6, 7, 8], [0, 0, 0, 0, 9, 9, 9, 9]]
        job = made([4, 2], [("mirror",), ("fixed", 7)], "([1 -1 0] + [2 0 1])", 97, 3, first)
        self.shows(EXAMPLE, job)

    def test_row_by_row(self):
        self.shows(PLAIN, made([2], [("round",)], "[1 0]", 97, 2, [[3, 4]]))
        text = "grid 1 fixed 1000000000\nterm -1000000000000\nmodulus 1000000000\nrounds 0\nfirst 999999999"
        self.shows(text, made([1], [("fixed", 10 ** 9)], "-1000000000000", 10 ** 9, 0, [[999999999]]))
        text = "grid 2 fixed 0, 1 mirror, 2 round\nterm ([3 -9 9 0] rest 5)\nmodulus 2\nrounds 12\n" + \
            "first 0 1 1 0\nfirst 1 1 1 1\nfirst 0 0 0 0"
        rims = [("fixed", 0), ("mirror",), ("round",)]
        self.shows(text, made([2, 1, 2], rims, "([3 -9 9 0] rest 5)", 2, 12, [[0, 1, 1, 0], [1] * 4, [0] * 4]))
        text = "grid 3 mirror\nterm (([1 1] ? -5 : [1 -1]) max (0 min ([1 0] * -7)))\nmodulus 11\nrounds 1\nfirst 10 0 5"
        self.shows(text, made([3], [("mirror",)], text.split("\n")[1][5:], 11, 1, [[10, 0, 5]]))

    def test_thrown_jobs(self):
        dice = Dice(211)
        for _ in range(100):
            job = thrown_job(dice, 60)
            self.shows(show_job(job), job)
            self.assertIsNone(first_wrong_row(show_job(job)))

    def test_every_rim_and_size(self):
        for sizes in SIZES:
            for rim in RIMS:
                grid = Grid(sizes, [rim] * len(sizes))
                job = Job(grid, read_term("5"), 7, 1, [[3] * grid.places_many()])
                words = {"round": "round", "mirror": "mirror", "fixed": "fixed 5"}[rim[0]]
                self.assertEqual(show_job(job).split("\n")[0], "grid " + ", ".join(f"{size} {words}" for size in sizes))
                self.shows(show_job(job), job)

    def test_the_read_job_keeps_nothing_of_another(self):
        one, other = read_job(PLAIN), read_job(PLAIN)
        one.first[0][0] = 50
        self.assertEqual(show_job(other), PLAIN)


class ReadJob(unittest.TestCase):
    def no_text(self, at, text):
        self.assertEqual(first_wrong_row(text), at, text)
        refused(self, NoText, at, read_job, text)

    def with_row(self, at, row):
        """The plain text with another row."""
        rows = PLAIN.split("\n")
        rows[at] = row
        return "\n".join(rows)

    def test_no_text_at_all(self):
        for thing in odd_things() + [None, 0, 5, ["grid"], ("grid",), b"grid", {"grid": 1}]:
            if not isinstance(thing, str):
                refused(self, NoText, None, read_job, thing)

    def test_rows_that_lack(self):
        rows = PLAIN.split("\n")
        self.no_text(0, "")
        for many in [1, 2, 3]:
            self.no_text(many, "\n".join(rows[:many]))
        # No first row is lacking by the form.
        refused(self, NoJob, "first", read_job, "\n".join(rows[:4]))

    def test_line_ends_ahead_and_behind(self):
        self.no_text(0, "\n" + PLAIN)
        self.no_text(5, PLAIN + "\n")
        self.no_text(0, "\n")
        self.no_text(1, "grid 2 round\n")
        self.no_text(4, "\n".join(PLAIN.split("\n")[:4]) + "\n")
        self.no_text(2, PLAIN.replace("\nmodulus", "\n\nmodulus"))

    def test_rows_out_of_their_order(self):
        rows = PLAIN.split("\n")
        self.no_text(0, "\n".join(rows[1:]))
        self.no_text(1, "\n".join([rows[0]] + rows[2:]))
        self.no_text(2, "\n".join([rows[0], rows[1], rows[3], rows[2], rows[4]]))
        self.no_text(3, "\n".join([rows[0], rows[1], rows[2], rows[4], rows[3]]))
        self.no_text(0, "\n".join(rows[::-1]))
        for at in range(4):
            self.no_text(at + 1, "\n".join(rows[:at + 1] + rows[at:]))
        self.no_text(5, PLAIN + "\nrounds 2")
        self.no_text(5, PLAIN + "\nlast 2 2")

    def test_grid_rows(self):
        for row in [
            "", "grid", "grid ", "grid 2", "grid round", "grid 2 round ", " grid 2 round", "grid  2 round", "grid 2  round",
            "grid 02 round", "grid -0 round", "grid +2 round", "grid 2 rounds", "grid 2 Round", "Grid 2 round", "grids 2 round",
            "grid 2 round,", "grid 2 round, ", "grid 2 round,2 round", "grid 2 round,  2 round", "grid 2 round , 2 round",
            "grid , 2 round", "grid 2 round 5", "grid 2 mirror 5", "grid 2 fixed", "grid 2 fixed ", "grid 2 fixed 05",
            "grid 2 fixed 5 5", "grid 2 fixed x", "grid 2 fixed -0", "grid 12345678901234 round", "grid 2 fixed 12345678901234",
            "grid -12345678901234 round", "grid 2 round; 2 round", "grid 2, round", "grid 2. round", "grid two round",
            "grid 2 fixed --5", "grid - round", "grid 1_0 round", "grid 2 round, 2", "grid 2 2 round", "term [1 0]", "job",
        ]:
            self.no_text(0, self.with_row(0, row))

    def test_term_rows(self):
        for row in [
            "", "term", "term ", "term  [1 0]", "term [1 0] ", " term [1 0]", "term [1  0]", "term ([1 0] + 1", "term 01",
            "term -0", "term 12345678901234", "term [1]", "term [1 0 0 0 0]", "Term [1 0]", "terms [1 0]", "term [1 0]]",
            "term ([1 0] rest -5)", "term ([1 0]+1)", "term x", "modulus 97", "term " + "(" * 13 + "1" + " + 1)" * 13,
        ]:
            self.no_text(1, self.with_row(1, row))

    def test_modulus_and_rounds_rows(self):
        for at, word in [(2, "modulus"), (3, "rounds")]:
            for row in [
                "", word, word + " ", word + "  5", word + " 5 ", " " + word + " 5", word + " 05", word + " -0", word + " +5",
                word + " 5 5", word + " 12345678901234", word + " x", word + "5", word + " 5.", word + " 5,6", word + " -",
                word.upper() + " 5", word[:-1] + " 5", word + "s 5", "first 5", "term 5", word + " 1_0", word + " 0x5",
            ]:
                self.no_text(at, self.with_row(at, row))

    def test_first_rows(self):
        for row in [
            "", "first", "first ", "first  3 4", "first 3  4", "first 3 4 ", " first 3 4", "first 03 4", "first 3 -0",
            "first 3,4", "first 3 x", "first 3 12345678901234", "firsts 3 4", "First 3 4", "first3 4", "wanted 3 4", "grid 2 round",
        ]:
            self.no_text(4, self.with_row(4, row))
            self.no_text(5, PLAIN + "\n" + row)

    def test_the_first_wrong_row_is_told(self):
        self.no_text(1, "grid 2 round\nterm x\nmodulus x\nrounds\nfirst")
        self.no_text(3, "grid 2 round\nterm 1\nmodulus 5\nrounds x\nfirst")
        # Its form goes ahead of what is refused in a row ahead.
        self.no_text(4, "grid 99 round\nterm [9 99]\nmodulus -5\nrounds 99\nfirst x")

    def test_grids_that_are_refused(self):
        for at, row in [
            (0, "grid 0 round"), (0, "grid 10 mirror"), (0, "grid -1 round"), (1, "grid 2 round, 2 fixed -1"),
            (1, "grid 2 round, 9999999999999 fixed 1000000001"), (0, "grid 2 fixed 1000000001"), (None, "grid 9 round, 5 round"),
            (None, "grid 2 round, 2 round, 1 round, 1 round"), (2, "grid 2 round, 2 round, 0 round"),
        ]:
            refused(self, NoGrid, at, read_job, self.with_row(0, row))
            # The grid goes ahead of the term and the job.
            refused(self, NoGrid, at, read_job, f"{row}\nterm [9 9]\nmodulus 0\nrounds -1")

    def test_terms_that_are_refused(self):
        deep = "(" * 12 + "1" + " + 1)" * 12
        wide = "1"
        for _ in range(5):
            wide = f"({wide} + {wide})"
        takes = "[1 0]"
        for step in range(1, 7):
            takes = f"({takes} + [1 {step}])"
        for at, text in [
            ("number", "1000000000001"), ("number", "-9999999999999"), ("back", "[0 0]"), ("back", "[-1 0]"), ("back", "[4 0]"),
            ("steps", "[1 10]"), ("steps", "[1 -10]"), ("by", "([1 0] rest 0)"), ("by", "([1 0] rest 1000000001)"),
            ("lines", "([1 0] + [1 0 0])"), ("depth", deep), ("parts", wide), ("takes", takes),
        ]:
            refused(self, NoTerm, at, read_job, self.with_row(1, "term " + text))
            refused(self, NoTerm, at, read_job, f"grid 2 round\nterm {text}\nmodulus 0\nrounds -1")

    def test_jobs_that_are_refused(self):
        refused(self, NoJob, "lines", read_job, self.with_row(1, "term [1 0 0]"))
        for modulus in ["0", "1", "-5", "1000000001", "9999999999999"]:
            refused(self, NoJob, "modulus", read_job, self.with_row(2, "modulus " + modulus))
        for rounds in ["-1", "13", "9999999999999"]:
            refused(self, NoJob, "rounds", read_job, self.with_row(3, "rounds " + rounds))
        for row in ["first 3", "first 3 4 5", "first 3 97", "first -1 4", "first 3 4\nfirst 3 4"]:
            refused(self, NoJob, "first", read_job, self.with_row(4, row))
        refused(self, NoJob, "modulus", read_job, "grid 2 round\nterm [1 0]\nmodulus 0\nrounds 13\nfirst 1")
        refused(self, NoJob, "rounds", read_job, "grid 9 round, 4 round\nterm 5\nmodulus 7\nrounds 4")

    def test_changed_texts(self):
        dice = Dice(223)
        kinds = []
        signs = "0123456789-, .@\n[]()+x" + "gridtermmodulusroundsfirst"
        for _ in range(4000):
            text = dice.one_of([EXAMPLE, PLAIN, show_job(thrown_job(dice, 12))])
            for _ in range(1 + dice.below(2)):
                at = dice.below(len(text) + 1)
                text = text[:at] + dice.one_of(["", dice.one_of(signs)]) + text[at + dice.below(3):]
            wrong = first_wrong_row(text)
            if wrong is not None:
                refused(self, NoText, wrong, read_job, text)
                kinds.append("text")
                continue
            try:
                job = made_by_values(text)
            except TileError as error:
                refused(self, type(error), error.at, read_job, text)
                kinds.append("refused")
            else:
                self.assertTrue(is_same(job_values(read_job(text)), job_values(job)))
                self.assertEqual(show_job(job), text)
                kinds.append("job")
        for kind in ["text", "refused", "job"]:
            self.assertGreater(kinds.count(kind), 100, kind)


if __name__ == "__main__":
    unittest.main()

"""Texts of jobs and of papers."""

from slanttiles.clashes import spots_by_slot
from slanttiles.errors import NoText
from slanttiles.jobs import Job
from slanttiles.papers import Paper
from slanttiles.places import Grid
from slanttiles.term_texts import read_written
from slanttiles.words import read_number, read_numbers, read_spots, show_numbers, show_spots

JOB_ROWS = 4
PAPER_ORDER = ("piece", "hand", "wait", "slot", "wanted")


def show_job(job):
    """Tell the text of a job."""
    lines = [show_line(size, rim) for size, rim in zip(job.grid.sizes, job.grid.rims)]
    rows = ["grid " + ", ".join(lines), "term " + job.term.shown()]
    rows.append(show_row("modulus", show_numbers([job.modulus])))
    rows.append(show_row("rounds", show_numbers([job.rounds])))
    rows.extend([show_row("first", show_numbers(worths)) for worths in job.first])
    return "\n".join(rows)


def show_line(size, rim):
    """Tell a line of a grid."""
    return show_row(str(size), [str(part) for part in rim])


def show_row(word, words):
    """Tell a row of a first word and the others."""
    return " ".join([word] + words)


def show_paper(paper):
    """Tell the text of a paper."""
    rows = [show_row("piece", show_spots(piece)) for piece in paper.pieces]
    rows.extend([show_row("hand", show_numbers(hand)) for hand in paper.hands])
    rows.extend([show_row("wait", show_numbers(wait)) for wait in paper.waits])
    sharing = spots_by_slot(paper)
    for slot in sorted(sharing):
        rows.append(show_row("slot", [str(slot)] + show_spots(sharing[slot])))
    rows.append(show_row("wanted", show_spots(paper.wanted)))
    return "\n".join(rows)


def rows_of(text):
    """Tell the rows of a text, and refuse what is none."""
    if not isinstance(text, str):
        raise NoText(None)
    return text.split("\n")


def read_job(text):
    """Read a job."""
    rows = rows_of(text)
    lines = [read_line(line, 0) for line in behind(rows, 0, "grid").split(", ")]
    term = read_term_row(behind(rows, 1, "term"), 1)
    modulus = read_number(behind(rows, 2, "modulus"), 2)
    rounds = read_number(behind(rows, 3, "rounds"), 3)
    first = [read_numbers(behind(rows, at, "first").split(" "), at) for at in range(JOB_ROWS, len(rows))]
    grid = Grid([size for size, rim in lines], [rim for size, rim in lines])
    return Job(grid, term, modulus, rounds, first)


def behind(rows, at, word):
    """Tell what stands in a row behind its first word and a blank."""
    if at == len(rows) or not rows[at].startswith(word + " "):
        raise NoText(at)
    return rows[at][len(word) + 1:]


def read_line(line, at):
    """Read a line of a grid, (size, rim)."""
    words = line.split(" ")
    if len(words) == 2 and words[1] in ("mirror", "round"):
        return (read_number(words[0], at), (words[1],))
    if len(words) == 3 and words[1] == "fixed":
        return (read_number(words[0], at), ("fixed", read_number(words[2], at)))
    raise NoText(at)


def read_term_row(text, at):
    """Read a term by its form alone, at being the number of its row."""
    try:
        return read_written(text)
    except NoText:
        raise NoText(at) from None


def read_paper(job, text):
    """Read a paper of a job."""
    rows = rows_of(text)
    reader = PaperReader()
    for at, row in enumerate(rows):
        reader.take_row(row.split(" "), at)
    if reader.wanted is None:
        raise NoText(len(rows))
    return Paper(job, reader.pieces, reader.hands, reader.waits, reader.slots, reader.wanted)


class PaperReader:
    """Takes the rows of a paper's text in their order."""

    def __init__(self):
        self.pieces = []
        self.hands = []
        self.waits = []
        self.slots = {}
        self.wanted = None
        self.numbers = []
        self.rank = 0

    def may_stand(self, word):
        """Tell whether a row with this first word may stand next."""
        if word not in PAPER_ORDER or self.wanted is not None:
            return False
        if len(self.hands) == 0 and word not in ("piece", "hand"):
            return False
        return PAPER_ORDER.index(word) >= self.rank

    def take_row(self, words, at):
        """Take the next row, at being its number."""
        word = words[0]
        if not self.may_stand(word):
            raise NoText(at)
        self.rank = PAPER_ORDER.index(word)
        if word == "piece":
            self.pieces.append(read_some_spots(words[1:], at))
        elif word == "hand":
            self.hands.append(read_numbers(words[1:], at))
        elif word == "wait":
            self.waits.append(read_wait(words[1:], at))
        elif word == "slot":
            self.take_slot(words[1:], at)
        else:
            self.wanted = read_spots(words[1:], at)

    def take_slot(self, words, at):
        """Take a slot's number and its spots."""
        spots = read_some_spots(words[1:], at)
        slot = read_number(words[0], at)
        self.numbers.append(slot)
        if not rises(self.numbers) or not rises(spots) or any([spot in self.slots for spot in spots]):
            raise NoText(at)
        for spot in spots:
            self.slots[spot] = slot


def read_some_spots(words, at):
    """Read words, one at least, each a spot."""
    if len(words) == 0:
        raise NoText(at)
    return read_spots(words, at)


def read_wait(words, at):
    """Read the two numbers of a wait."""
    if len(words) != 2:
        raise NoText(at)
    return tuple(read_numbers(words, at))


def rises(things):
    """Tell whether each thing of a list is less than the next one."""
    return all([one < other for one, other in zip(things, things[1:])])

"""A desk that keeps a job, a paper and a run, and answers rows by texts."""

from slanttiles.clashes import find_clash
from slanttiles.errors import NoJob, NoPaper, NoText
from slanttiles.leaning import leans_of, reach_of, readers_of
from slanttiles.makers import make_paper
from slanttiles.paper_texts import read_job, read_paper, show_job, show_paper
from slanttiles.piece_pairs import piece_pairs, waves_of
from slanttiles.pieces import is_fit
from slanttiles.plain_way import plain_round, plain_worths
from slanttiles.runs import Run
from slanttiles.shows import show_clash
from slanttiles.walks import walk_times
from slanttiles.words import read_number, read_numbers, read_spot, show_numbers, show_spot, show_spots

# What stands behind the first word of each row that wants a job, of each that wants a paper, too, and of each of a run.
JOB_FORMS = {
    "make": ("number", "numbers", "numbers", "number"),
    "text": (),
    "worth": ("spot",),
    "round": ("number",),
    "leans": ("spot",),
    "readers": ("spot",),
    "reach": (),
}
PAPER_FORMS = {"paper": (), "clash": (), "show": (), "waves": (), "times": (), "fit": ()}
RUN_FORMS = {"step": ("number",), "go": (), "ready": (), "held": ("number",), "over": (), "again": ()}


class Desk:
    """A desk; at first it keeps nothing."""

    def __init__(self):
        self.job = None
        self.paper = None
        self.run = None

    def say(self, row):
        """Answer a row."""
        if not isinstance(row, str):
            raise NoText(0)
        if row.startswith("job\n"):
            return self.take_job(read_job(row[len("job\n"):]))
        if row.startswith("paper\n"):
            self.check_job()
            return self.take_paper(read_paper(self.job, row[len("paper\n"):]))
        words = row.split(" ")
        given = read_given(words)
        self.check_job()
        if words[0] in JOB_FORMS:
            return self.answer_by_job(words[0], given)
        self.check_paper()
        if words[0] in PAPER_FORMS:
            return answer_by_paper(self.paper, words[0])
        return self.answer_by_run(words[0], given)

    def check_job(self):
        """Refuse what wants a job where none is kept."""
        if self.job is None:
            raise NoJob("none")

    def check_paper(self):
        """Refuse what wants a paper where none is kept."""
        if self.paper is None:
            raise NoPaper("none")

    def take_job(self, job):
        """Keep a job, and no paper any more."""
        self.job = job
        self.paper = None
        self.run = None
        return "ok"

    def take_paper(self, paper):
        """Keep a paper, and a run of it at its beginning."""
        self.paper = paper
        self.run = Run(paper)
        return "ok"

    def answer_by_job(self, word, given):
        """Answer a row that wants a job."""
        job = self.job
        if word == "make":
            wanted = [spot for spot in job.all_spots() if spot[0] == job.rounds]
            return self.take_paper(make_paper(job, given[0], given[1], given[2], given[3], wanted))
        if word == "text":
            return show_job(job)
        if word == "round":
            return told_numbers(plain_round(job, given[0]))
        if word == "reach":
            return told_numbers(reach_of(job))
        return answer_by_spot(job, word, given[0])

    def answer_by_run(self, word, given):
        """Answer a row that wants a run."""
        if word == "step":
            return told_step(self.run, given[0])
        if word == "go":
            self.run.go_on()
            return "over" if self.run.is_over() else "stuck"
        if word == "ready":
            return told_numbers(self.run.ready())
        if word == "held":
            return told_held(self.run.held(given[0]))
        if word == "over":
            return told_truth(self.run.is_over())
        return self.take_paper(self.paper)


def read_given(words):
    """Read what stands behind the first word of a row, by its form."""
    form = form_of(words[0])
    if form is None or len(words) != len(form) + 1:
        raise NoText(0)
    return [read_by(kind, word) for kind, word in zip(form, words[1:])]


def form_of(word):
    """Tell the form of the rows with this first word, or None."""
    if word in JOB_FORMS:
        return JOB_FORMS[word]
    if word in PAPER_FORMS:
        return PAPER_FORMS[word]
    return RUN_FORMS.get(word)


def read_by(kind, word):
    """Read a word of a row."""
    if kind == "number":
        return read_number(word, 0)
    if kind == "numbers":
        return read_numbers(word.split(","), 0)
    return read_spot(word, 0)


def answer_by_spot(job, word, spot):
    """Answer a row that asks of a spot."""
    if not job.is_spot(spot):
        raise NoJob("spot")
    if word == "worth":
        return str(plain_worths(job)[spot])
    if word == "leans":
        return told_spots(leans_of(job, spot))
    return told_spots(readers_of(job, spot))


def answer_by_paper(paper, word):
    """Answer a row that wants a paper."""
    if word == "paper":
        return show_paper(paper)
    if word == "clash":
        return told_clash(find_clash(paper))
    if word == "show":
        return told_numbers(show_clash(paper))
    if word == "waves":
        return told_waves(waves_of(piece_pairs(paper.job, paper.pieces), len(paper.pieces)))
    if word == "times":
        return told_list([f"{begin}-{end}" for begin, end in walk_times(paper)], " ")
    return told_truth(is_fit(paper.job, paper.pieces))


def told_list(words, between):
    """Tell words with a text between two, - where there are none."""
    if len(words) == 0:
        return "-"
    return between.join(words)


def told_numbers(numbers):
    """Tell a list of numbers."""
    return told_list(show_numbers(numbers), ",")


def told_spots(spots):
    """Tell a list of spots."""
    return told_list(show_spots(spots), " ")


def told_truth(truth):
    """Tell yes or no."""
    return "yes" if truth else "no"


def told_clash(clash):
    """Tell a clash, none where there is none."""
    if clash is None:
        return "none"
    if clash[0] == "ring":
        return "ring " + told_numbers(clash[1])
    return clash[0] + " " + told_spots(clash[1:])


def told_waves(waves):
    """Tell waves, ring where there are none for a ring."""
    if waves is None:
        return "ring"
    return told_list([told_numbers(wave) for wave in waves], "; ")


def told_held(lying):
    """Tell what lies in a slot, - where nothing does."""
    if lying is None:
        return "-"
    return show_spot(lying[0]) + " = " + str(lying[1])


def told_step(run, hand):
    """Do a hand's step, and tell it with the wrong reads that it had."""
    spot = run.next_spot(hand)
    ahead = len(run.wrong_reads())
    run.step(hand)
    told = told_held((spot, run.told(spot)))
    wrong = [read[1] for read in run.wrong_reads()[ahead:]]
    if len(wrong) == 0:
        return told
    return told + " wrong " + told_spots(wrong)

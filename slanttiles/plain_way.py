"""The plain way: all places of a round, then the next round."""

from slanttiles.errors import NoJob
from slanttiles.wholes import is_within


def plain_worths(job):
    """Tell the worths of all spots, a dict."""
    worths = {}
    for spot in job.all_spots():
        worths[spot] = job.next_worth(spot, lambda made: worths[made])
    return worths


def plain_round(job, round_at):
    """Tell the worths of a round, in the places' order."""
    if not is_within(round_at, 1 - job.deep(), job.rounds):
        raise NoJob("rounds")
    if round_at <= 0:
        return job.first_row(round_at)
    worths = plain_worths(job)
    return [worths[(round_at, place)] for place in job.grid.all_places()]

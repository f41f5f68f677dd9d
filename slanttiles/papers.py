"""Papers: how a job is done by pieces, hands and room."""

from slanttiles.errors import NoPaper
from slanttiles.spot_lists import are_pieces, are_spots
from slanttiles.wholes import is_within

MOST_PIECES = 120
MOST_HANDS = 4
MOST_WAITS = 400
GREATEST_SLOT = 119


class Paper:
    """A paper; its values are copies of what it is made of."""

    def __init__(self, job, pieces, hands, waits, slots, wanted):
        if not are_pieces(job, pieces) or len(pieces) > MOST_PIECES:
            raise NoPaper("pieces")
        if not are_hands(hands, len(pieces)):
            raise NoPaper("hands")
        if not are_waits(waits, len(pieces)):
            raise NoPaper("waits")
        if not are_slots(job, slots):
            raise NoPaper("slots")
        if not are_wanted(job, wanted):
            raise NoPaper("wanted")
        self.job = job
        self.pieces = [list(piece) for piece in pieces]
        self.hands = [list(hand) for hand in hands]
        self.waits = list(waits)
        self.slots = dict(slots)
        self.wanted = list(wanted)


def are_hands(thing, many):
    """Tell of anything whether it is a list of hands in which each number below many stands once."""
    return are_shared_out(thing, many) and is_hand_count(len(thing))


def is_hand_count(thing):
    """Tell of anything whether a paper may have so many hands."""
    return is_within(thing, 1, MOST_HANDS)


def are_shared_out(thing, many):
    """Tell of anything whether it is a list of lists in which each number below many stands once in all."""
    if not isinstance(thing, list):
        return False
    numbers = []
    for row in thing:
        if not isinstance(row, list) or not are_below(row, many):
            return False
        numbers.extend(row)
    return sorted(numbers) == list(range(many))


def are_below(things, many):
    """Tell whether all things of a list or tuple are whole numbers from 0 to below many."""
    return all([is_within(thing, 0, many - 1) for thing in things])


def are_waits(thing, many):
    """Tell of anything whether it is a list of pairs of numbers below many, not too long."""
    if not isinstance(thing, list) or len(thing) > MOST_WAITS:
        return False
    return all([is_wait(wait, many) for wait in thing])


def is_wait(thing, many):
    """Tell of anything whether it is a pair of numbers below many."""
    return isinstance(thing, tuple) and len(thing) == 2 and are_below(thing, many)


def are_slots(job, thing):
    """Tell of anything whether it is a dict with a slot for each spot of the job and for nothing else."""
    if not isinstance(thing, dict) or len(thing) != len(job.all_spots()):
        return False
    # No two keys are equal, so as many spots as the job has are all of them.
    return are_spots(job, list(thing)) and all([is_within(slot, 0, GREATEST_SLOT) for slot in thing.values()])


def are_wanted(job, thing):
    """Tell of anything whether it is a list of unlike spots of the job."""
    return are_spots(job, thing) and len(set(thing)) == len(thing)

"""Room: which spots may share a slot, and slots for all of them."""

from slanttiles.befores import Befores
from slanttiles.clashes import find_order_clash
from slanttiles.errors import NoPaper
from slanttiles.leaning import last_use, readers_by_spot
from slanttiles.papers import are_wanted
from slanttiles.pieces import goes_right
from slanttiles.runs import Run


class Sharing:
    """What spots of a paper may share a slot; the paper's own slots aren't looked at."""

    def __init__(self, paper):
        self.befores = Befores(paper)
        if find_order_clash(paper, self.befores) is not None:
            raise NoPaper("clash")
        self.readers = readers_by_spot(paper.job)
        self.wanted = list(paper.wanted)

    def is_safe(self, one, other):
        """Tell whether two unlike spots may share a slot."""
        return self.stays(one, other) and self.stays(other, one)

    def stays(self, made, over):
        """Tell whether, in one slot with over, made's worth lies there as long as it is needed."""
        if self.befores.spot_before(over, made):
            return True
        if made in self.wanted:
            return False
        # Over itself may read made: it reads ahead of its write.
        return all([reader == over or self.befores.spot_before(reader, over) for reader in self.readers[made]])


def may_share(paper, one, other):
    """Tell whether two unlike spots, of anything, may share a slot in each run of the paper."""
    sharing = Sharing(paper)
    if not paper.job.is_spot(one) or not paper.job.is_spot(other) or one == other:
        raise NoPaper("spots")
    return sharing.is_safe(one, other)


def room_for(paper):
    """Tell slots, from each spot of the job to one, with which the paper has no clash."""
    sharing = Sharing(paper)
    run = Run(paper)
    run.go_on()
    sharers = []
    room = {}
    for spot in run.done_spots():
        slot = least_shared(sharing, sharers, spot)
        if slot == len(sharers):
            sharers.append([])
        sharers[slot].append(spot)
        room[spot] = slot
    return room


def least_shared(sharing, sharers, spot):
    """Tell the least slot that a spot may share with all that have it, sharers telling these by slots."""
    for slot, others in enumerate(sharers):
        if all([sharing.is_safe(spot, other) for other in others]):
            return slot
    return len(sharers)


def least_room(job, row, wanted):
    """Tell the fewest slots by which one hand does a row, from each spot to one."""
    check_row(job, row, wanted)
    last = last_use(job, row)
    holders = []
    room = {}
    for place, spot in enumerate(row):
        slot = least_free(holders, last, place, wanted)
        holders = holders[:slot] + [spot] + holders[slot + 1:]
        room[spot] = slot
    return room


def check_row(job, row, wanted):
    """Refuse what is no row that goes right, then what isn't wanted spots."""
    if not are_wanted(job, row) or len(row) != len(job.all_spots()) or not goes_right(job, row):
        raise NoPaper("row")
    if not are_wanted(job, wanted):
        raise NoPaper("wanted")


def least_free(holders, last, place, wanted):
    """Tell the least slot that is free at a place of the row, holders telling by slots what lies there."""
    for slot, holder in enumerate(holders):
        if not is_kept(holder, last, place, wanted):
            return slot
    return len(holders)


def is_kept(spot, last, place, wanted):
    """Tell whether a spot done by then is wanted, or read behind this place of the row."""
    return spot in wanted or last[spot] > place


def slots_wanted(job, row, wanted):
    """Tell how many slots one hand needs to do a row."""
    return len(set(list(least_room(job, row, wanted).values())))


def crowd_at(job, row, wanted):
    """Tell (place, spots): spots that must all lie in slots of their own there; None without spots."""
    most = slots_wanted(job, row, wanted)
    last = last_use(job, row)
    for place, spot in enumerate(row):
        spots = [spot] + [other for other in row[:place] if is_kept(other, last, place, wanted)]
        if len(spots) == most:
            return (place, sorted(spots))
    return None

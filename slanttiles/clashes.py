"""Clashes: the first thing for which a paper isn't let by."""

from slanttiles.befores import Befores
from slanttiles.leaning import leans_of
from slanttiles.spot_lists import counts_in


def find_clash(paper):
    """Tell the clash of a paper, or None where it is let by."""
    befores = Befores(paper)
    clash = find_order_clash(paper, befores)
    if clash is None:
        clash = find_late(paper, befores)
    if clash is None:
        clash = find_gone(paper, befores)
    return clash


def find_order_clash(paper, befores):
    """Tell the clash of a paper that comes of something else than its slots, or None."""
    clash = find_miscount(paper)
    if clash is not None:
        return clash
    ring = befores.ring()
    if ring is not None:
        return ("ring", ring)
    return find_early(paper, befores)


def find_miscount(paper):
    """Tell the least spot that stands twice, else the least one that is left, else None."""
    spots = paper.job.all_spots()
    counts = counts_in(paper.pieces)
    for spot in spots:
        if counts.get(spot, 0) > 1:
            return ("twice", spot)
    for spot in spots:
        if spot not in counts:
            return ("left", spot)
    return None


def find_early(paper, befores):
    """Tell the least read that may come too early, or None."""
    # Readers, and what each one reads, rise, so the first one found is the least.
    for reader in paper.job.all_spots():
        for made in leans_of(paper.job, reader):
            if not befores.spot_before(made, reader):
                return ("early", reader, made)
    return None


def find_late(paper, befores):
    """Tell the least read before which another spot may have taken the slot, or None."""
    sharing = spots_by_slot(paper)
    for reader in paper.job.all_spots():
        for made in leans_of(paper.job, reader):
            for over in sharing[paper.slots[made]]:
                if over not in (reader, made) and comes_between(befores, made, over, reader):
                    return ("late", reader, made, over)
    return None


def comes_between(befores, made, over, reader):
    """Tell whether over may be done behind made and ahead of reader."""
    return not befores.spot_before(over, made) and not befores.spot_before(reader, over)


def find_gone(paper, befores):
    """Tell the least wanted spot whose slot another one may take behind it, or None."""
    sharing = spots_by_slot(paper)
    for last in sorted(paper.wanted):
        for over in sharing[paper.slots[last]]:
            if over != last and not befores.spot_before(over, last):
                return ("gone", last, over)
    return None


def spots_by_slot(paper):
    """Tell for each slot the spots that have it, rising, a dict."""
    sharing = {}
    for spot in paper.job.all_spots():
        sharing.setdefault(paper.slots[spot], []).append(spot)
    return sharing

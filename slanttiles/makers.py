"""A maker of papers without clash, of every job."""

from slanttiles.errors import NoPaper
from slanttiles.papers import Paper, is_hand_count
from slanttiles.piece_pairs import piece_pairs
from slanttiles.pieces import is_fit
from slanttiles.room import room_for
from slanttiles.slants import slanted_pieces, straight_pieces


def make_paper(job, height, widths, skews, hands, wanted):
    """Tell a paper of slanted pieces where these do, else of one piece for each round."""
    slanted = slanted_pieces(job, height, widths, skews)
    if not is_hand_count(hands):
        raise NoPaper("hands")
    pieces = slanted if go_in_order(job, slanted) else straight_pieces(job, 1, job.grid.sizes)
    rows = [list(range(hand, len(pieces), hands)) for hand in range(hands)]
    waits = greatest_waits(piece_pairs(job, pieces), hands)
    # Room doesn't hang on the slots of the paper for which it is found; what is wanted is looked over by Paper.
    one_slot = dict([(spot, 0) for spot in job.all_spots()])
    room = room_for(Paper(job, pieces, rows, waits, one_slot, wanted))
    return Paper(job, pieces, rows, waits, room, wanted)


def go_in_order(job, pieces):
    """Tell whether pieces are fit and each leans on pieces ahead of it alone."""
    return is_fit(job, pieces) and all([made < reader for reader, made in piece_pairs(job, pieces)])


def greatest_waits(pairs, hands):
    """Tell for each piece and each other hand the wait for the greatest piece of it that is leaned on."""
    greatest = {}
    for reader, made in pairs:
        if made % hands != reader % hands:
            key = (reader, made % hands)
            greatest[key] = max(made, greatest.get(key, made))
    return sorted([(key[0], made) for key, made in greatest.items()])

"""Pieces, and whether they are fit for a job."""

from slanttiles.leaning import leans_of
from slanttiles.piece_pairs import piece_pairs, ring_in
from slanttiles.spot_lists import are_pieces, counts_in


def is_fit(job, pieces):
    """Tell of lists of anything whether they are pieces that are fit for the job."""
    if not are_pieces(job, pieces):
        return False
    counts = counts_in(pieces)
    if not all([counts.get(spot, 0) == 1 for spot in job.all_spots()]):
        return False
    if not all([goes_right(job, piece) for piece in pieces]):
        return False
    return ring_in(piece_pairs(job, pieces), len(pieces)) is None


def goes_right(job, piece):
    """Tell whether each spot of a piece stands behind those of the piece on which it leans."""
    coming = counts_in([piece])
    for spot in piece:
        if any([made in coming for made in leans_of(job, spot)]):
            return False
        coming.pop(spot)
    return True

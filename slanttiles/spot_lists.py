"""Lists of spots, and of anything whether it is one."""


def are_spots(job, thing):
    """Tell of anything whether it is a list of spots of the job."""
    return isinstance(thing, list) and all([job.is_spot(spot) for spot in thing])


def are_pieces(job, thing):
    """Tell of anything whether it is a list of lists of spots of the job, none of them empty."""
    if not isinstance(thing, list):
        return False
    return all([are_spots(job, piece) and len(piece) > 0 for piece in thing])


def counts_in(pieces):
    """Tell of each spot that stands in pieces how often it does, a dict."""
    counts = {}
    for piece in pieces:
        for spot in piece:
            counts[spot] = counts.get(spot, 0) + 1
    return counts

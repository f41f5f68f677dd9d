"""Pieces cut by blocks, straight or slanted."""

from slanttiles.errors import NoPaper
from slanttiles.wholes import is_within

MOST_HEIGHT = 12
MOST_WIDTH = 9
MOST_SKEW = 9


def straight_pieces(job, height, widths):
    """Tell the pieces of straight blocks."""
    return slanted_pieces(job, height, widths, [0] * job.grid.lines())


def slanted_pieces(job, height, widths, skews):
    """Tell the pieces of blocks that shift by the skews from round to round."""
    lines = job.grid.lines()
    if not is_within(height, 1, MOST_HEIGHT):
        raise NoPaper("height")
    if not are_within(widths, lines, 1, MOST_WIDTH):
        raise NoPaper("widths")
    if not are_within(skews, lines, 0, MOST_SKEW):
        raise NoPaper("skews")
    blocks = {}
    for spot in job.all_spots():
        blocks.setdefault(block_of(spot, height, widths, skews), []).append(spot)
    return [blocks[block] for block in sorted(blocks)]


def are_within(thing, many, least, most):
    """Tell of anything whether it is a list of so many whole numbers from least to most."""
    if not isinstance(thing, list) or len(thing) != many:
        return False
    return all([is_within(number, least, most) for number in thing])


def block_of(spot, height, widths, skews):
    """Tell the block in which a spot lies."""
    ahead = spot[0] - 1
    block = [ahead // height]
    for number, width, skew in zip(spot[1], widths, skews):
        block.append((number + skew * ahead) // width)
    return tuple(block)

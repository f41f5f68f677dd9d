"""Least walks: what no walk of pieces goes below, and a walk that ends soonest."""

from slanttiles.errors import NoPaper, TooGreat
from slanttiles.piece_pairs import ring_in
from slanttiles.walks import last_end, times_of
from slanttiles.wholes import is_within

MOST_PIECES = 6
MOST_HANDS = 3


def chain_bound(lasts, pairs):
    """Tell the greatest sum of what the pieces of a chain last."""
    # With a hand for each piece nothing but the pairs holds a piece up.
    return last_end(times_of(lasts, pairs))


def work_bound(lasts, hands):
    """Tell what all pieces last together, shared out among the hands and rounded up."""
    return (sum(lasts) + hands - 1) // hands


def least_walk(lasts, pairs, hands):
    """Tell (end, rows) of rows, as many as hands, than which none end sooner."""
    if len(lasts) > MOST_PIECES:
        raise TooGreat(len(lasts))
    if not is_within(hands, 1, MOST_HANDS):
        raise TooGreat(hands)
    if ring_in(pairs, len(lasts)) is not None:
        raise NoPaper("ring")
    unlike = sorted(set(pairs))
    return min([walk_by(order, lasts, unlike, hands) for order in all_orders(unlike, len(lasts))])


def all_orders(pairs, many):
    """Tell all orders in which each piece stands behind those for which it waits."""
    orders = [[]]
    for count in range(many):
        longer = []
        for order in orders:
            longer.extend([order + [piece] for piece in next_in(order, pairs, many)])
        orders = longer
    return orders


def next_in(order, pairs, many):
    """Tell the pieces that may stand next in an order that is begun."""
    waiting = [piece for piece, other in pairs if other not in order]
    return [piece for piece in range(many) if piece not in order and piece not in waiting]


def walk_by(order, lasts, pairs, hands):
    """Tell (end, rows) where each piece, in this order, goes to the hand that is free first."""
    # Where the order is that in which the pieces of some other walk begin, none begins later here
    # than there: less than all hands are still at work on pieces ahead by then. So all orders are enough.
    rows = [[] for hand in range(hands)]
    free_from = [0] * hands
    ends = {}
    for piece in order:
        hand = free_from.index(min(free_from))
        begin = max([free_from[hand]] + [ends[other] for waiting, other in pairs if waiting == piece])
        ends[piece] = begin + lasts[piece]
        free_from[hand] = ends[piece]
        rows[hand].append(piece)
    return (max(free_from), rows)

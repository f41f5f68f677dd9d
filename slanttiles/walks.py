"""Walks: runs by the clock, each piece lasting as many ticks as it has spots."""

from slanttiles.errors import NoPaper
from slanttiles.papers import are_shared_out
from slanttiles.piece_pairs import waves_of


def times_of(lasts, pairs):
    """Tell for each piece (begin, end), where p of each pair (p, q) begins behind the end of q."""
    waves = waves_of(pairs, len(lasts))
    if waves is None:
        raise NoPaper("ring")
    awaited = [[] for last in lasts]
    for waiting, other in pairs:
        awaited[waiting].append(other)
    times = [(0, 0)] * len(lasts)
    for wave in waves:
        for piece in wave:
            begin = max([times[other][1] for other in awaited[piece]], default=0)
            times[piece] = (begin, begin + lasts[piece])
    return times


def with_rows(pairs, rows):
    """Tell pairs, and those of each piece in a row with the one ahead of it."""
    longer = list(pairs)
    for row in rows:
        longer.extend(list(zip(row[1:], row)))
    return longer


def last_end(times):
    """Tell the greatest end, 0 without pieces."""
    return max([end for begin, end in times], default=0)


def walk_times(paper):
    """Tell for each piece of a paper (begin, end)."""
    return times_of([len(piece) for piece in paper.pieces], with_rows(paper.waits, paper.hands))


def walk_end(paper):
    """Tell when all pieces of a paper have ended."""
    return last_end(walk_times(paper))


def walk_idle(paper):
    """Tell for each hand how long it only waits ahead of the end of its last piece."""
    times = walk_times(paper)
    return [idle_in([times[piece] for piece in hand]) for hand in paper.hands]


def idle_in(times):
    """Tell how many ticks up to the last end belong to no piece of a hand."""
    return last_end(times) - sum([end - begin for begin, end in times])


def rows_end(lasts, pairs, rows):
    """Tell the end of the walk of pieces that hands do by rows, of anything."""
    if not are_shared_out(rows, len(lasts)) or len(rows) == 0:
        raise NoPaper("rows")
    return last_end(times_of(lasts, with_rows(pairs, rows)))

"""Pieces that lean on pieces, by pairs of their numbers; rings and waves of such pairs."""

from slanttiles.leaning import leans_by_spot


def piece_pairs(job, pieces):
    """Tell the pairs (p, q) of unlike pieces where some spot of p leans on some spot of q, sorted."""
    leans = leans_by_spot(job)
    homes = homes_of(pieces)
    pairs = {}
    for number, piece in enumerate(pieces):
        for made in leaned_on(leans, piece):
            for home in homes.get(made, []):
                if home != number:
                    pairs[(number, home)] = True
    return sorted(pairs)


def homes_of(pieces):
    """Tell for each spot the numbers of the pieces in which it stands, each once."""
    homes = {}
    for number, piece in enumerate(pieces):
        for spot in sorted(set(piece)):
            homes.setdefault(spot, []).append(number)
    return homes


def leaned_on(leans, piece):
    """Tell the unlike spots on which some spot of a piece leans."""
    found = []
    for spot in sorted(set(piece)):
        found.extend(leans[spot])
    return sorted(set(found))


def waves_of(pairs, many):
    """Tell the waves of the numbers below many, or None where there is a ring."""
    waves = waves_ahead(pairs, many)
    if sum([len(wave) for wave in waves]) < many:
        return None
    return waves


def waves_ahead(pairs, many):
    """Tell the waves as far as they come; what is in a ring, or leans on one, is in none."""
    lacking = [0] * many
    readers = [[] for number in range(many)]
    for reader, made in pairs:
        lacking[reader] = lacking[reader] + 1
        readers[made].append(reader)
    waves = []
    wave = [number for number in range(many) if lacking[number] == 0]
    while len(wave) > 0:
        waves.append(wave)
        freed = []
        for made in wave:
            for reader in readers[made]:
                lacking[reader] = lacking[reader] - 1
                if lacking[reader] == 0:
                    freed.append(reader)
        wave = sorted(freed)
    return waves


def ring_in(pairs, many):
    """Tell a ring of the numbers below many, each leaning on the next one, or None."""
    free = {}
    for wave in waves_ahead(pairs, many):
        for number in wave:
            free[number] = True
    # Just the numbers in no wave lean on such ones, so going on among them never ends.
    onward = {}
    for reader, made in pairs:
        if made not in free:
            onward[reader] = made
    if len(onward) == 0:
        return None
    gone = []
    number = min(list(onward))
    while number not in gone:
        gone.append(number)
        number = onward[number]
    return gone[gone.index(number):]

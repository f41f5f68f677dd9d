"""What leans on what: spots on the spots that they read."""


def leans_of(job, spot):
    """Tell the spots on which a spot leans, sorted."""
    return sorted(set([where[1] for take, where in job.reads_of(spot) if where[0] == "spot"]))


def leans_by_spot(job):
    """Tell for each spot the spots on which it leans, a dict."""
    leans = {}
    for spot in job.all_spots():
        leans[spot] = leans_of(job, spot)
    return leans


def readers_of(job, spot):
    """Tell the spots that lean on a spot, sorted."""
    return [reader for reader in job.all_spots() if spot in leans_of(job, reader)]


def readers_by_spot(job):
    """Tell for each spot the spots that lean on it, a dict."""
    readers = {}
    for reader in job.all_spots():
        readers[reader] = []
        # Spots lean on spots of rounds ahead alone, and these have their lists by now.
        for made in leans_of(job, reader):
            readers[made].append(reader)
    return readers


def reach_of(job):
    """Tell for each line how far, in one round back, a take reaches at most."""
    takes = job.term.takes()
    return [reach_along(takes, line) for line in range(job.grid.lines())]


def reach_along(takes, line):
    """Tell how far takes reach along a line in one round back, rounded up."""
    return max([(abs(steps[line]) + back - 1) // back for back, steps in takes], default=0)


def last_use(job, row):
    """Tell for each spot the place in the row of the last one that leans on it, else its own place."""
    leans = leans_by_spot(job)
    used = {}
    for place, reader in enumerate(row):
        for made in leans[reader]:
            used[made] = place
    last = {}
    for place, spot in enumerate(row):
        last[spot] = used.get(spot, place)
    return last


def depths_of(job):
    """Tell for each spot how many spots the longest chain has that ends with it."""
    depths = {}
    # Spots lean on spots of rounds ahead alone, and these are gone through first.
    for spot in job.all_spots():
        depths[spot] = 1 + max([depths[made] for made in leans_of(job, spot)], default=0)
    return depths

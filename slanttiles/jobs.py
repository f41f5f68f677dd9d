"""Jobs: a grid, a term, a modulus, rounds and first worths."""

from slanttiles.errors import NoJob
from slanttiles.terms import check_term, lines_of
from slanttiles.wholes import is_within

GREATEST_MODULUS = 1_000_000_000
MOST_ROUNDS = 12
MOST_SPOTS = 120


class Job:
    """A job; its spots are tuples (round, place)."""

    def __init__(self, grid, term, modulus, rounds, first):
        check_term(term)
        if lines_of(term) not in (None, grid.lines()):
            raise NoJob("lines")
        if not is_within(modulus, 2, GREATEST_MODULUS):
            raise NoJob("modulus")
        if not is_within(rounds, 0, MOST_ROUNDS) or rounds * grid.places_many() > MOST_SPOTS:
            raise NoJob("rounds")
        # The takes are kept, since each spot that is reckoned goes by them.
        self.taken = term.takes()
        if not are_rows(first, self.deep(), grid.places_many(), modulus):
            raise NoJob("first")
        self.grid = grid
        self.term = term
        self.modulus = modulus
        self.rounds = rounds
        self.first = [list(row) for row in first]

    def deep(self):
        """Tell how deep the job is."""
        return max([take[0] for take in self.taken], default=1)

    def all_spots(self):
        """Tell all spots, rising."""
        places = self.grid.all_places()
        spots = []
        for round_at in range(1, self.rounds + 1):
            spots.extend([(round_at, place) for place in places])
        return spots

    def is_spot(self, thing):
        """Tell of anything whether it is a spot of the job."""
        if not isinstance(thing, tuple) or len(thing) != 2:
            return False
        return is_within(thing[0], 1, self.rounds) and self.grid.has_place(thing[1])

    def reads_of(self, spot):
        """Tell for each take, in order, a pair (take, where) of what the spot reads."""
        return [(take, self.where(spot, take)) for take in self.taken]

    def where(self, spot, take):
        """Tell what a spot reads by a take: ("rim", value), ("spot", spot) or ("first", (round, place))."""
        beside = self.grid.beside(spot[1], take[1])
        if beside[0] == "rim":
            return beside
        round_at = spot[0] - take[0]
        if round_at > 0:
            return ("spot", (round_at, beside[1]))
        return ("first", (round_at, beside[1]))

    def first_row(self, round_at):
        """Tell the first worths of a round that is 0 or less, a copy."""
        return list(self.first[round_at + self.deep() - 1])

    def worth_read(self, where, get):
        """Tell the worth of what is read, get telling that of a spot."""
        if where[0] == "rim":
            return where[1]
        if where[0] == "spot":
            return get(where[1])
        row = self.first_row(where[1][0])
        return row[self.grid.place_number(where[1][1])]

    def next_worth(self, spot, get):
        """Tell the next worth at a spot, get telling the worth of a spot that it reads."""
        worths = {}
        for take, where in self.reads_of(spot):
            worths[take] = self.worth_read(where, get)
        return self.term.value_by(lambda take: worths[take]) % self.modulus


def are_rows(thing, deep, many, modulus):
    """Tell of anything whether it is a list of deep rows of worths."""
    if not isinstance(thing, list) or len(thing) != deep:
        return False
    return all([is_row(row, many, modulus) for row in thing])


def is_row(thing, many, modulus):
    """Tell of anything whether it is a list of many worths."""
    if not isinstance(thing, list) or len(thing) != many:
        return False
    return all([is_within(worth, 0, modulus - 1) for worth in thing])

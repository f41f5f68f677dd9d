"""Grids of one to three lines, and their places."""

from slanttiles.errors import NoGrid
from slanttiles.rims import is_rim, number_by_rim
from slanttiles.wholes import is_within

MOST_LINES = 3
GREATEST_SIZE = 9
MOST_PLACES = 40


class Grid:
    """A grid, made of a list of sizes and a list of rims."""

    def __init__(self, sizes, rims):
        check_lines(sizes, rims)
        if product(sizes) > MOST_PLACES:
            raise NoGrid(None)
        self.sizes = list(sizes)
        self.rims = list(rims)

    def lines(self):
        """Tell how many lines there are."""
        return len(self.sizes)

    def places_many(self):
        """Tell how many places there are."""
        return product(self.sizes)

    def all_places(self):
        """Tell all places, rising."""
        places = [()]
        for size in self.sizes:
            places = with_line(places, size)
        return places

    def has_place(self, thing):
        """Tell of anything whether it is a place of the grid."""
        if not isinstance(thing, tuple) or len(thing) != self.lines():
            return False
        return all([is_within(number, 0, size - 1) for number, size in zip(thing, self.sizes)])

    def place_number(self, place):
        """Tell how many lesser places there are."""
        number = 0
        for along, size in zip(place, self.sizes):
            number = number * size + along
        return number

    def beside(self, place, steps):
        """Tell ("place", place) or ("rim", value) of what is beside a place by steps."""
        numbers = []
        for line, rim in enumerate(self.rims):
            number = number_by_rim(rim, self.sizes[line], place[line] + steps[line])
            if number is None:
                return ("rim", rim[1])
            numbers.append(number)
        return ("place", tuple(numbers))


def check_lines(sizes, rims):
    """Refuse wrong counts of lines, then the first line whose size or rim is none."""
    if not 1 <= len(sizes) <= MOST_LINES or len(rims) != len(sizes):
        raise NoGrid(None)
    for line, rim in enumerate(rims):
        if not is_within(sizes[line], 1, GREATEST_SIZE) or not is_rim(rim):
            raise NoGrid(line)


def product(sizes):
    """Tell how many places lines of these sizes have."""
    many = 1
    for size in sizes:
        many = many * size
    return many


def with_line(places, size):
    """Tell each place with each number of one more line."""
    longer = []
    for place in places:
        for number in range(size):
            longer.append(place + (number,))
    return longer

"""Words of texts: numbers and spots as they are written; what is written otherwise is refused with NoText(at)."""

from slanttiles.errors import NoText

FIGURES = "0123456789"
MOST_FIGURES = 13
MOST_IN_PLACE = 3


def is_number(word):
    """Tell whether a word is a number as it is written."""
    figures = word[1:] if word.startswith("-") else word
    if not 1 <= len(figures) <= MOST_FIGURES or not all([sign in FIGURES for sign in figures]):
        return False
    return word == "0" or figures[0] != "0"


def read_number(word, at):
    """Read a number."""
    if not is_number(word):
        raise NoText(at)
    return int(word)


def read_numbers(words, at):
    """Read a list of words, each a number."""
    return [read_number(word, at) for word in words]


def read_spot(word, at):
    """Read a spot, its place of one to three numbers."""
    halves = word.split("@")
    if len(halves) != 2:
        raise NoText(at)
    place = read_numbers(halves[1].split("."), at)
    if len(place) > MOST_IN_PLACE:
        raise NoText(at)
    return (read_number(halves[0], at), tuple(place))


def read_spots(words, at):
    """Read a list of words, each a spot."""
    return [read_spot(word, at) for word in words]


def show_numbers(numbers):
    """Tell the words of numbers, a list."""
    return [str(number) for number in numbers]


def show_spot(spot):
    """Tell the word of a spot."""
    place = ".".join(show_numbers(spot[1]))
    return str(spot[0]) + "@" + place


def show_spots(spots):
    """Tell the words of spots, a list."""
    return [show_spot(spot) for spot in spots]

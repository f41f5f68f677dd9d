"""The rims of lines, and where a number beyond a line's ends leads by them."""

from slanttiles.wholes import is_within

GREATEST_FIXED = 1_000_000_000


def is_rim(thing):
    """Tell of anything whether it is a rim."""
    if not isinstance(thing, tuple) or len(thing) == 0:
        return False
    if not isinstance(thing[0], str):
        return False
    if thing[0] == "fixed":
        return len(thing) == 2 and is_within(thing[1], 0, GREATEST_FIXED)
    return len(thing) == 1 and thing[0] in ("mirror", "round")


def number_by_rim(rim, size, number):
    """Tell the number of the line that a number leads to; None where it is out."""
    if 0 <= number < size:
        return number
    if rim[0] == "round":
        return number % size
    if rim[0] == "mirror":
        return mirrored(size, number)
    return None


def mirrored(size, number):
    """Tell where a line that goes to and fro leads."""
    # Each end counts twice, so the way there and back is twice the size long.
    along = number % (2 * size)
    if along < size:
        return along
    return 2 * size - 1 - along

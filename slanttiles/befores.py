"""What comes before what in a paper: pieces and spots."""

from slanttiles.piece_pairs import ring_in


class Befores:
    """What is before what in each run of a paper."""

    def __init__(self, paper):
        self.many = len(paper.pieces)
        self.single_steps = pairs_before(paper)
        self.led_to = all_led_to(self.single_steps, self.many)
        self.stands = stands_in(paper.pieces)

    def ring(self):
        """Tell a ring of pieces, each before the next one by one step, or None."""
        return ring_in(self.single_steps, self.many)

    def piece_before(self, one, other):
        """Tell whether one piece is before another one."""
        return other in self.led_to[one]

    def spot_before(self, one, other):
        """Tell whether one spot is before another one, both standing just once."""
        here = self.stands[one]
        there = self.stands[other]
        if here[0] == there[0]:
            return here[1] < there[1]
        return self.piece_before(here[0], there[0])


def pairs_before(paper):
    """Tell the pairs (p, q) of pieces where p is before q by one step."""
    pairs = []
    for hand in paper.hands:
        pairs.extend(list(zip(hand, hand[1:])))
    pairs.extend([(awaited, waiting) for waiting, awaited in paper.waits])
    return pairs


def all_led_to(pairs, many):
    """Tell, by numbers, a dict of those to which one step or several lead."""
    onward = [[] for number in range(many)]
    for one, other in pairs:
        onward[one].append(other)
    return [led_to_from(onward, number) for number in range(many)]


def led_to_from(onward, number):
    """Tell a dict of the numbers to which one step or several lead from a number."""
    found = {}
    left = list(onward[number])
    while len(left) > 0:
        at = left.pop()
        if at not in found:
            found[at] = True
            left.extend(onward[at])
    return found


def stands_in(pieces):
    """Tell for each spot (piece, place in the piece), a dict."""
    stands = {}
    for number, piece in enumerate(pieces):
        for place, spot in enumerate(piece):
            stands[spot] = (number, place)
    return stands

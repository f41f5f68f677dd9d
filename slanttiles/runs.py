"""Runs: a paper done step by step, whoever steps when."""

from slanttiles.errors import NoPaper
from slanttiles.leaning import leans_of
from slanttiles.wholes import is_whole, is_within


class Run:
    """A run of a paper; it goes on also where the paper isn't let by."""

    def __init__(self, paper):
        self.paper = paper
        self.rows = [row_of_hand(paper, hand) for hand in paper.hands]
        self.places = [0] * len(paper.hands)
        self.lacking = [len(piece) for piece in paper.pieces]
        self.awaited = awaited_by_piece(paper)
        self.lying = {}
        self.done = []
        self.wrong = []

    def ready(self):
        """Tell the hands that can step, rising."""
        return [hand for hand in range(len(self.rows)) if self.can_step(hand)]

    def next_step(self, hand):
        """Tell a hand's next step as (piece, place in the piece), or None; None also of what is no hand."""
        if not is_within(hand, 0, len(self.rows) - 1) or self.places[hand] == len(self.rows[hand]):
            return None
        return self.rows[hand][self.places[hand]]

    def next_spot(self, hand):
        """Tell a hand's next spot, or None."""
        step = self.next_step(hand)
        if step is None:
            return None
        return self.paper.pieces[step[0]][step[1]]

    def can_step(self, hand):
        """Tell of anything whether it is a hand's number that can step."""
        step = self.next_step(hand)
        if step is None:
            return False
        return step[1] > 0 or all([self.lacking[piece] == 0 for piece in self.awaited[step[0]]])

    def step(self, hand):
        """Do a hand's next spot."""
        if not self.can_step(hand):
            raise NoPaper("step")
        spot = self.next_spot(hand)
        self.wrong.extend(self.wrong_reads_now(spot))
        worth = self.paper.job.next_worth(spot, lambda made: self.worth_lying(made))
        self.lying[self.paper.slots[spot]] = (spot, worth)
        self.done.append(spot)
        piece = self.next_step(hand)[0]
        self.lacking[piece] = self.lacking[piece] - 1
        self.places[hand] = self.places[hand] + 1

    def spot_lying(self, made):
        """Tell the spot whose worth lies in a spot's slot, or None."""
        lying = self.lying.get(self.paper.slots[made])
        return None if lying is None else lying[0]

    def worth_lying(self, made):
        """Tell the worth that lies in a spot's slot, whosever it is, 0 where nothing does."""
        lying = self.lying.get(self.paper.slots[made])
        return 0 if lying is None else lying[1]

    def wrong_reads_now(self, reader):
        """Tell the wrong reads that a spot done now would have, by rising made."""
        reads = [(reader, made, self.spot_lying(made)) for made in leans_of(self.paper.job, reader)]
        return [read for read in reads if read[1] != read[2]]

    def go(self, choices):
        """Step by a list of numbers, each telling a hand among those that can step."""
        for number in choices:
            able = self.ready()
            if len(able) > 0:
                self.step(able[number % len(able)])

    def go_on(self):
        """Let the least hand that can step do so till none can."""
        able = self.ready()
        while len(able) > 0:
            self.step(able[0])
            able = self.ready()

    def is_over(self):
        """Tell whether all is done."""
        return sum(self.lacking) == 0

    def done_spots(self):
        """Tell all spots done so far, in order."""
        return list(self.done)

    def wrong_reads(self):
        """Tell all wrong reads so far, in order, as tuples (reader, made, there)."""
        return list(self.wrong)

    def held(self, slot):
        """Tell (spot, worth) of what lies in a slot, or None."""
        # Python takes True for 1 as a key, and a truth is no slot's number.
        return self.lying.get(slot) if is_whole(slot) else None

    def told(self, spot):
        """Tell a spot's worth where it lies in the spot's slot, else None."""
        if self.spot_lying(spot) != spot:
            return None
        return self.worth_lying(spot)


def row_of_hand(paper, hand):
    """Tell a hand's steps in order, each as (piece, place in the piece)."""
    row = []
    for piece in hand:
        row.extend([(piece, place) for place in range(len(paper.pieces[piece]))])
    return row


def awaited_by_piece(paper):
    """Tell, by the pieces' numbers, lists of the pieces for which each one waits."""
    awaited = [[] for piece in paper.pieces]
    for waiting, other in paper.waits:
        awaited[waiting].append(other)
    return awaited

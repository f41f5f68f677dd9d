"""Stage 8: a maker of papers."""

import itertools
import unittest

from helper import (
    RIMS, Dice, changed_paper, is_same, odd_things, paper_values, plain_job, refused, thrown_job,
)
from slanttiles.clashes import find_clash
from slanttiles.errors import NoPaper
from slanttiles.makers import make_paper
from slanttiles.papers import Paper
from slanttiles.piece_pairs import piece_pairs
from slanttiles.pieces import is_fit
from slanttiles.plain_way import plain_worths
from slanttiles.room import room_for
from slanttiles.runs import Run
from slanttiles.slants import slanted_pieces, straight_pieces

# Three places, each of its own place and the one ahead of it, two rounds.
LINE = plain_job([3], [("fixed", 5)], "([1 -1] + [1 0])", 2)
L1, L2, L3, M1, M2, M3 = LINE.all_spots()
ROUND = plain_job([4], [("round",)], "([1 -1] + [1 1])", 3)
EMPTY = plain_job([2], [("round",)], "[1 0]", 0)


def rounds_of(job):
    """A piece for each round."""
    return [[spot for spot in job.all_spots() if spot[0] == number] for number in range(1, job.rounds + 1)]


def waits_by_words(job, pieces, hands):
    """The waits as the document tells them."""
    pairs = piece_pairs(job, pieces)
    waits = []
    for p, hand in itertools.product(range(len(pieces)), range(hands)):
        made = [q for q in range(len(pieces)) if q % hands == hand and (p, q) in pairs]
        if made and hand != p % hands:
            waits.append((p, max(made)))
    return sorted(waits)


class Makers(unittest.TestCase):
    def check(self, pieces, job, height, widths, skews, hands, wanted):
        """Check a made paper, its pieces being these; tell it."""
        given = ([*widths], [*skews], [*wanted])
        paper = make_paper(job, height, widths, skews, hands, wanted)
        self.assertIs(type(paper), Paper)
        self.assertIs(paper.job, job)
        self.assertTrue(is_same((widths, skews, wanted), given))
        self.assertTrue(is_same(paper.pieces, pieces), paper.pieces)
        rows = [[p for p in range(len(pieces)) if p % hands == hand] for hand in range(hands)]
        self.assertTrue(is_same(paper.hands, rows), paper.hands)
        self.assertTrue(is_same(paper.waits, waits_by_words(job, pieces, hands)), paper.waits)
        self.assertTrue(is_same(paper.wanted, wanted))
        others = changed_paper(paper, slots={spot: 0 for spot in job.all_spots()})
        self.assertTrue(is_same(paper.slots, room_for(others)))
        self.assertIsNone(find_clash(paper))
        return paper

    def test_by_hand(self):
        pieces = [[L1, L2, M1], [L3, M2, M3]]
        paper = self.check(pieces, LINE, 2, [2], [1], 2, [M3])
        self.assertEqual((paper.hands, paper.waits), ([[0], [1]], [(1, 0)]))
        self.assertEqual(paper.slots, {L1: 0, L2: 1, M1: 2, L3: 2, M2: 0, M3: 0})
        paper = self.check(pieces, LINE, 2, [2], [1], 2, [M3, M1])
        self.assertEqual(paper.slots, {L1: 0, L2: 1, M1: 2, L3: 3, M2: 0, M3: 0})
        paper = self.check(pieces, LINE, 2, [2], [1], 1, [M3])
        self.assertEqual((paper.hands, paper.waits), ([[0, 1]], []))
        paper = self.check(pieces, LINE, 2, [2], [1], 4, [])
        self.assertEqual((paper.hands, paper.waits), ([[0], [1], [], []], [(1, 0)]))

    def test_waits_for_the_greatest_one_of_each_other_hand(self):
        # A piece for each place of each round, in the order of the rounds: 0 1 2 3, 4 5 6 7, 8 9 10 11.
        pieces = [[spot] for spot in ROUND.all_spots()]
        paper = self.check(pieces, ROUND, 1, [1], [0], 3, [])
        # 4 leans on 1 and 3, 5 on 0 and 2, 6 on 1 and 3, 7 on 0 and 2; 8 on 5 and 7, and so on.
        waits = [(4, 3), (5, 0), (6, 1), (7, 0), (7, 2), (8, 7), (9, 4), (10, 5), (11, 4), (11, 6)]
        self.assertEqual(paper.waits, waits)
        paper = self.check(pieces, ROUND, 1, [1], [0], 2, [])
        # Both on which a piece leans stand in one hand: the greater one is awaited.
        waits = [(4, 3), (5, 2), (6, 3), (7, 2), (8, 7), (9, 6), (10, 7), (11, 6)]
        self.assertEqual(paper.waits, waits)

    def test_shapes_that_are_not_fit(self):
        # Two blocks of a round line lean on one another.
        self.assertFalse(is_fit(ROUND, straight_pieces(ROUND, 3, [2])))
        for hands in [1, 2, 3, 4]:
            self.check(rounds_of(ROUND), ROUND, 3, [2], [0], hands, [(3, (0,))])
        self.assertFalse(is_fit(ROUND, slanted_pieces(ROUND, 3, [2], [1])))
        self.check(rounds_of(ROUND), ROUND, 3, [2], [1], 2, [])

    def test_shapes_that_are_fit_but_lean_on_pieces_behind(self):
        job = plain_job([3], [("fixed", 5)], "([1 1] + [1 0])", 3)
        pieces = straight_pieces(job, 3, [1])
        self.assertTrue(is_fit(job, pieces))
        self.assertEqual(piece_pairs(job, pieces), [(0, 1), (1, 2)])
        self.check(rounds_of(job), job, 3, [1], [0], 2, [])
        # Slanted, the same goes right.
        pieces = slanted_pieces(job, 3, [1], [1])
        self.check(pieces, job, 3, [1], [1], 2, [(3, (2,))])
        self.assertNotEqual(pieces, rounds_of(job))

    def test_jobs_without_spots(self):
        for hands in [1, 2, 4]:
            paper = self.check([], EMPTY, 3, [2], [1], hands, [])
            self.assertEqual((paper.hands, paper.waits, paper.slots), ([[]] * hands, [], {}))

    def test_jobs_without_takes(self):
        job = plain_job([2, 2], [("round",), ("mirror",)], "5", 3)
        self.check(slanted_pieces(job, 2, [1, 2], [9, 0]), job, 2, [1, 2], [9, 0], 3, job.all_spots()[::-1])

    def test_every_kind_of_rim(self):
        texts = {1: "([1 -1] + ([1 1] + [2 0]))", 2: "([1 -1 0] + ([1 0 1] + [3 1 -1]))", 3: "([1 -1 0 1] + [2 0 1 0])"}
        slanted = 0
        for sizes in [[4], [2, 3], [2, 1, 2]]:
            for rims in itertools.product(RIMS, repeat=len(sizes)):
                job = plain_job(sizes, list(rims), texts[len(sizes)], 3)
                for height, width, skew, hands in [(1, 1, 0, 4), (2, 2, 1, 2), (3, 9, 0, 1), (3, 1, 2, 3), (12, 2, 0, 2)]:
                    widths, skews = [width] * len(sizes), [skew] * len(sizes)
                    pieces = slanted_pieces(job, height, widths, skews)
                    ahead = all(q < p for p, q in piece_pairs(job, pieces))
                    if is_fit(job, pieces) and ahead:
                        slanted += height > 1
                    else:
                        pieces = rounds_of(job)
                    self.check(pieces, job, height, widths, skews, hands, job.all_spots()[-2:])
        self.assertGreater(slanted, 40)

    def test_made_papers_tell_the_worths_of_the_plain_way(self):
        dice = Dice(179)
        for _ in range(80):
            job = thrown_job(dice, 40)
            lines = job.grid.lines()
            widths, skews = [1 + dice.below(9) for _ in range(lines)], [dice.below(4) for _ in range(lines)]
            wanted = [spot for spot in dice.mixed(job.all_spots()) if dice.below(3) == 0]
            paper = make_paper(job, 1 + dice.below(12), widths, skews, 1 + dice.below(4), wanted)
            self.assertIsNone(find_clash(paper))
            run = Run(paper)
            run.go([dice.below(1000) for _ in job.all_spots()])
            worths = plain_worths(job)
            self.assertEqual((run.is_over(), run.wrong_reads()), (True, []))
            self.assertEqual([run.told(spot) for spot in wanted], [worths[spot] for spot in wanted])

    def test_120_spots(self):
        text = "((([1 0 0] + [1 1 0]) + ([1 0 1] + [2 1 1])) + ([1 -1 0] + [1 0 -1]))"
        for rim in RIMS:
            job = plain_job([2, 5], [rim, rim], text, 12)
            for height, widths, skews, hands in [(12, [1, 1], [1, 1], 4), (1, [1, 1], [0, 0], 4), (4, [2, 2], [0, 1], 3)]:
                paper = make_paper(job, height, widths, skews, hands, job.all_spots())
                self.assertIsNone(find_clash(paper))

    def refuse(self, word, *given):
        refused(self, NoPaper, word, make_paper, LINE, *given)

    def test_refused(self):
        for thing in odd_things() + [0, -1, 13, 10 ** 12, True]:
            self.refuse("height", thing, [2], [1], 2, [])
        odd = [thing for thing in odd_things() if not is_same(thing, [1])]
        for thing in odd + [[], [0], [10], [2, 2], [True], [None], (2,), 2, None]:
            self.refuse("widths", 2, thing, [1], 2, [])
        for thing in odd + [[], [-1], [10], [1, 1], [False], (1,), 1, None]:
            self.refuse("skews", 2, [2], thing, 2, [])
        for thing in odd_things() + [0, 5, -1, 10 ** 12, True, None, "1", [1], (2,)]:
            self.refuse("hands", 2, [2], [1], thing, [])
        for thing in odd_things() + [None, 0, L1, (L1,), {L1: True}, [L1, L1], [(0, (0,))], [(3, (0,))], [(True, (0,))]]:
            if not isinstance(thing, list) or len(thing) > 0:
                self.refuse("wanted", 2, [2], [1], 2, thing)

    def test_which_is_told_where_several_are_wrong(self):
        wrong = [("height", 0), ("widths", [0]), ("skews", [-1]), ("hands", 0), ("wanted", None)]
        right = [2, [2], [1], 2, []]
        for many in range(1, 6):
            for places in itertools.combinations(range(5), many):
                given = [wrong[at][1] if at in places else right[at] for at in range(5)]
                self.refuse(wrong[places[0]][0], *given)
        # Also where the pieces aren't fit.
        refused(self, NoPaper, "hands", make_paper, ROUND, 3, [2], [0], True, None)
        refused(self, NoPaper, "wanted", make_paper, ROUND, 3, [2], [0], 1, [L1, L1])

    def test_what_is_changed_later_changes_nothing(self):
        widths, skews, wanted = [2], [1], [M3]
        paper = make_paper(LINE, 2, widths, skews, 2, wanted)
        values = paper_values(paper)
        for given in [widths, skews, wanted]:
            given.clear()
        self.assertTrue(is_same(paper_values(paper), values))
        other = make_paper(LINE, 2, [2], [1], 2, [M3])
        for value in [other.pieces, other.hands, other.waits, other.slots, other.wanted]:
            value.clear()
        self.assertTrue(is_same(paper_values(paper), values))


if __name__ == "__main__":
    unittest.main()

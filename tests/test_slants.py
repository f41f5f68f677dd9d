"""Stage 5: straight and slanted pieces."""

import itertools
import unittest

from helper import Dice, Odd, is_same, odd_things, plain_job, refused, thrown_job
from slanttiles.errors import NoPaper
from slanttiles.leaning import leans_of, reach_of
from slanttiles.pieces import is_fit
from slanttiles.slants import slanted_pieces, straight_pieces

ROUND = ("round",)
LINE = plain_job([4], [("mirror",)], "([1 -1] + [1 1])", 3)
PLANE = plain_job([2, 3], [("mirror",), ("fixed", 5)], "([1 1 0] + [1 0 -1])", 2)
ROOM = plain_job([2, 2, 2], [("mirror",)] * 3, "[1 1 0 -1]", 2)


def on_line(*rounds_and_numbers):
    """A piece of a line's spots, told as (round, number, number ..)."""
    return [(told[0], (number,)) for told in rounds_and_numbers for number in told[1:]]


class Cutting(unittest.TestCase):
    def straight(self, pieces, job, height, widths):
        self.assertTrue(is_same(straight_pieces(job, height, widths), pieces))
        self.assertTrue(is_same(slanted_pieces(job, height, widths, [0] * job.grid.lines()), pieces))

    def slanted(self, pieces, job, height, widths, skews):
        self.assertTrue(is_same(slanted_pieces(job, height, widths, skews), pieces))

    def test_straight_ones_of_a_line(self):
        self.straight(
            [on_line((1, 0, 1), (2, 0, 1)), on_line((1, 2, 3), (2, 2, 3)), on_line((3, 0, 1)), on_line((3, 2, 3))],
            LINE, 2, [2],
        )
        self.straight([on_line((1, 0, 1, 2), (2, 0, 1, 2), (3, 0, 1, 2)), on_line((1, 3), (2, 3), (3, 3))], LINE, 12, [3])
        self.straight([on_line((t, x)) for t in [1, 2, 3] for x in range(4)], LINE, 1, [1])
        self.straight([LINE.all_spots()], LINE, 3, [4])
        self.straight([LINE.all_spots()], LINE, 12, [9])

    def test_slanted_ones_of_a_line(self):
        # By x + t - 1: round 1 has 0 to 3, round 2 has 1 to 4, round 3 has 2 to 5.
        self.slanted(
            [on_line((1, 0, 1), (2, 0)), on_line((1, 2, 3), (2, 1, 2), (3, 0, 1)), on_line((2, 3), (3, 2, 3))],
            LINE, 3, [2], [1],
        )
        self.slanted(
            [on_line((1, 0, 1), (2, 0)), on_line((1, 2, 3), (2, 1, 2)), on_line((2, 3)), on_line((3, 0, 1)),
             on_line((3, 2, 3))],
            LINE, 2, [2], [1],
        )
        # By x + 2 * (t - 1): round 2 has 2 to 5, round 3 has 4 to 7.
        self.slanted(
            [on_line((1, 0, 1, 2), (2, 0)), on_line((1, 3), (2, 1, 2, 3), (3, 0, 1)), on_line((3, 2, 3))],
            LINE, 12, [3], [2],
        )
        # By x + 9 * (t - 1): round 2 has 9 to 12, round 3 has 18 to 21.
        self.slanted([on_line((1, 0, 1, 2, 3)), on_line((2, 0, 1, 2, 3)), on_line((3, 0, 1, 2, 3))], LINE, 12, [9], [9])
        self.slanted([on_line((t, x)) for t in [1, 2, 3] for x in range(4)], LINE, 1, [1], [9])

    def test_planes(self):
        spots = {(t, a, b): (t, (a, b)) for t, (a, b) in PLANE.all_spots()}
        # Along the first line by a + t - 1, width 2; along the second one by b, width 2.
        self.slanted(
            [
                [spots[told] for told in [(1, 0, 0), (1, 0, 1), (1, 1, 0), (1, 1, 1), (2, 0, 0), (2, 0, 1)]],
                [spots[told] for told in [(1, 0, 2), (1, 1, 2), (2, 0, 2)]],
                [spots[told] for told in [(2, 1, 0), (2, 1, 1)]],
                [spots[told] for told in [(2, 1, 2)]],
            ],
            PLANE, 2, [2, 2], [1, 0],
        )
        # Along the second line by b + 2 * (t - 1), width 3.
        self.slanted(
            [
                [spots[told] for told in [(1, 0, 0), (1, 0, 1), (1, 0, 2), (2, 0, 0)]],
                [spots[told] for told in [(2, 0, 1), (2, 0, 2)]],
                [spots[told] for told in [(1, 1, 0), (1, 1, 1), (1, 1, 2), (2, 1, 0)]],
                [spots[told] for told in [(2, 1, 1), (2, 1, 2)]],
            ],
            PLANE, 2, [1, 3], [0, 2],
        )
        self.straight([[s for s in PLANE.all_spots() if s[0] == t] for t in [1, 2]], PLANE, 1, [2, 3])

    def test_three_lines(self):
        self.slanted([ROOM.all_spots()], ROOM, 2, [9, 9, 9], [0, 0, 0])
        # With skew 1 and width 2 the second line's upper half of round 2 comes into a block of its own.
        low = [spot for spot in ROOM.all_spots() if spot[0] == 1 or spot[1][1] == 0]
        high = [spot for spot in ROOM.all_spots() if spot not in low]
        self.slanted([low, high], ROOM, 2, [2, 2, 2], [0, 1, 0])
        first = [spot for spot in ROOM.all_spots() if spot[1][2] == 0]
        second = [spot for spot in ROOM.all_spots() if spot[1][2] == 1]
        self.straight([first, second], ROOM, 12, [2, 2, 1])

    def test_a_job_without_spots(self):
        self.straight([], plain_job([4], [ROUND], "[1 0]", 0), 1, [1])
        self.slanted([], plain_job([4, 2], [ROUND, ROUND], "[1 0 0]", 0), 12, [9, 9], [9, 0])

    def test_many_jobs(self):
        dice = Dice(51)
        for _ in range(150):
            job = thrown_job(dice)
            lines = job.grid.lines()
            height = 1 + dice.below(12)
            widths = [1 + dice.below(9) for _ in range(lines)]
            skews = [dice.below(10) for _ in range(lines)]
            blocks = {}
            for t, place in job.all_spots():
                block = [(t - 1) // height]
                for k in range(lines):
                    block.append((place[k] + skews[k] * (t - 1)) // widths[k])
                blocks.setdefault(tuple(block), []).append((t, place))
            self.slanted([sorted(spots) for block, spots in sorted(blocks.items())], job, height, widths, skews)

    def test_told_lists_are_the_askers_own(self):
        before = [list(piece) for piece in slanted_pieces(LINE, 2, [2], [1])]
        told = slanted_pieces(LINE, 2, [2], [1])
        told[0].clear()
        told.append(None)
        self.slanted(before, LINE, 2, [2], [1])


class Refusing(unittest.TestCase):
    def refused(self, at, job, height, widths, skews):
        refused(self, NoPaper, at, slanted_pieces, job, height, widths, skews)

    def refused_both(self, at, job, height, widths):
        self.refused(at, job, height, widths, [0] * job.grid.lines())
        refused(self, NoPaper, at, straight_pieces, job, height, widths)

    def test_borders(self):
        for height in [1, 12]:
            for width, skew in itertools.product([1, 9], [0, 9]):
                for job in [LINE, PLANE, ROOM]:
                    lines = job.grid.lines()
                    self.assertTrue(slanted_pieces(job, height, [width] * lines, [skew] * lines))
                    self.assertTrue(straight_pieces(job, height, [width] * lines))

    def test_heights(self):
        for height in odd_things() + [0, 13, -1, 10 ** 39, [2], (2,)]:
            self.refused_both("height", LINE, height, [2])
            self.refused("height", LINE, height, None, None)
            self.refused("height", PLANE, height, [2, 2], Odd())

    def test_widths(self):
        for width in odd_things() + [0, 10, 13, -1, 10 ** 39]:
            self.refused_both("widths", LINE, 2, [width])
            self.refused_both("widths", PLANE, 2, [2, width])
            self.refused_both("widths", PLANE, 2, [width, 2])
            self.refused("widths", ROOM, 2, [2, 2, width], None)
        for widths in [thing for thing in odd_things() if not is_same(thing, [1])] + [
            (2,), 2, "2", {0: 2}, [2, 2], [2, 2, 2], [[2]], [(2,)],
        ]:
            self.refused_both("widths", LINE, 2, widths)
            self.refused("widths", LINE, 2, widths, None)
        for widths in [[], [2], (2, 2), [2, 2, 2], 2, None]:
            self.refused_both("widths", PLANE, 2, widths)
        for widths in [[], [2], [2, 2], (2, 2, 2), [2, 2, 2, 2]]:
            self.refused_both("widths", ROOM, 2, widths)

    def test_skews(self):
        for skew in odd_things() + [-1, 10, 13, 10 ** 39, -10 ** 39]:
            self.refused("skews", LINE, 2, [2], [skew])
            self.refused("skews", PLANE, 2, [2, 2], [0, skew])
            self.refused("skews", PLANE, 2, [2, 2], [skew, 0])
        for skews in [thing for thing in odd_things() if not is_same(thing, [1])] + [
            (1,), 1, 0, "1", {0: 1}, [0, 0], [0, 0, 0], [[0]],
        ]:
            self.refused("skews", LINE, 2, [2], skews)
        for skews in [[], [0], (0, 0), [0, 0, 0], 0, None]:
            self.refused("skews", PLANE, 2, [2, 2], skews)

    def test_the_first_that_is_due(self):
        self.refused("height", LINE, 0, [0], [-1])
        self.refused("height", LINE, True, [2], [-1])
        self.refused("height", LINE, None, [0], [0])
        self.refused("widths", LINE, 1, [0], [-1])
        self.refused("widths", LINE, 1, (1,), (0,))
        self.refused("skews", LINE, 1, [1], [-1])
        self.refused("widths", plain_job([4], [ROUND], "[1 0]", 0), 1, [0], [0])

    def test_lists_handed_in_stay(self):
        widths, skews = [2, 3], [1, 0]
        slanted_pieces(PLANE, 2, widths, skews)
        straight_pieces(PLANE, 2, widths)
        self.assertTrue(is_same([widths, skews], [[2, 3], [1, 0]]))
        widths, skews = [2, 0], [1, -1]
        self.refused("widths", PLANE, 2, widths, skews)
        self.assertTrue(is_same([widths, skews], [[2, 0], [1, -1]]))


class Fit(unittest.TestCase):
    def goes_right(self, job, height, widths, skews):
        """Check that the pieces are fit, and that done in their order all goes right."""
        pieces = slanted_pieces(job, height, widths, skews)
        self.assertIs(is_fit(job, pieces), True)
        done = set()
        for piece in pieces:
            for spot in piece:
                self.assertTrue(set(leans_of(job, spot)) <= done, (height, widths, skews))
                done.add(spot)
        self.assertEqual(sorted(done), job.all_spots())

    def test_a_skew_of_the_reach_and_more(self):
        for rim, text in itertools.product(
            [("mirror",), ("fixed", 5)], ["([1 -1] + [1 1])", "([1 2] + [3 -7])", "([2 3] + [2 -3])", "[3 9]", "[1 -3]"],
        ):
            job = plain_job([5], [rim], text, 6)
            reach = reach_of(job)[0]
            for height, width, more in itertools.product([1, 2, 3, 12], [1, 2, 3, 9], [0, 1, 2]):
                self.goes_right(job, height, [width], [reach + more])

    def test_a_reach_of_0(self):
        for rim in [("mirror",), ROUND, ("fixed", 5)]:
            for text in ["([1 0] + [3 0])", "[2 0]", "7"]:
                job = plain_job([4], [rim], text, 6)
                for height, width, skew in itertools.product([1, 2, 5, 12], [1, 3, 4], [0, 1, 2, 9]):
                    self.goes_right(job, height, [width], [skew])

    def test_a_width_of_the_size_and_more(self):
        for rim in [("mirror",), ROUND, ("fixed", 5)]:
            for text in ["([1 -1] + [1 1])", "([1 9] + [3 -7])", "[2 3]"]:
                job = plain_job([4], [rim], text, 6)
                for height, width in itertools.product([1, 2, 5, 12], [4, 5, 9]):
                    self.goes_right(job, height, [width], [0])

    def test_lines_of_unlike_cases(self):
        job = plain_job([3, 2, 2], [("mirror",), ROUND, ROUND], "([1 -1 0 1] + [2 3 0 -1])", 5)
        for height, one, other, skew in itertools.product([1, 2, 5], [1, 2], [1, 2], [0, 1, 4]):
            self.goes_right(job, height, [one, other, 2], [2, skew, 0])

    def test_many_jobs(self):
        dice = Dice(53)
        for _ in range(120):
            job = thrown_job(dice)
            widths, skews = [], []
            for size, rim, reach in zip(job.grid.sizes, job.grid.rims, reach_of(job)):
                width, skew = 1 + dice.below(9), dice.below(10)
                if reach > 0 and rim != ROUND and dice.below(2):
                    skew = min(9, reach + dice.below(3))
                elif reach > 0:
                    width, skew = size + dice.below(10 - size), 0
                widths.append(width)
                skews.append(skew)
            self.goes_right(job, 1 + dice.below(12), widths, skews)

    def test_else_they_may_be_unfit(self):
        too_little = plain_job([4], [("mirror",)], "([1 -1] + [1 1])", 4)
        self.assertIs(is_fit(too_little, slanted_pieces(too_little, 2, [2], [0])), False)
        goes_round = plain_job([4], [ROUND], "([1 -1] + [1 1])", 4)
        self.assertIs(is_fit(goes_round, slanted_pieces(goes_round, 2, [2], [1])), False)
        self.assertIs(is_fit(goes_round, slanted_pieces(goes_round, 2, [4], [1])), False)


if __name__ == "__main__":
    unittest.main()

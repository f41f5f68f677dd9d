"""Stage 4: what leans on what."""

import unittest

from helper import Dice, is_same, plain_job, thrown_job
from slanttiles.leaning import depths_of, last_use, leans_of, reach_of, readers_of

FIXED = ("fixed", 5)
MIRROR = ("mirror",)
ROUND = ("round",)


def leaned_on(job, spot):
    """The spots that reads_of tells of a spot."""
    return {where[1] for take, where in job.reads_of(spot) if where[0] == "spot"}


class Leaning(unittest.TestCase):
    def told(self, told, spots):
        self.assertTrue(is_same(told, spots), told)

    def test_each_rim(self):
        for rim, low, high in [
            (ROUND, [(1, (1,)), (1, (2,))], [(1, (0,)), (1, (1,))]),
            (MIRROR, [(1, (0,)), (1, (1,))], [(1, (1,)), (1, (2,))]),
            (FIXED, [(1, (1,))], [(1, (1,))]),
        ]:
            job = plain_job([3], [rim], "([1 1] + [1 -1])", 2)
            self.told(leans_of(job, (2, (0,))), low)
            self.told(leans_of(job, (2, (1,))), [(1, (0,)), (1, (2,))])
            self.told(leans_of(job, (2, (2,))), high)

    def test_readers_through_each_rim(self):
        for rim, low, high in [
            (ROUND, [(2, (1,)), (2, (2,))], [(2, (0,)), (2, (1,))]),
            (MIRROR, [(2, (0,)), (2, (1,))], [(2, (1,)), (2, (2,))]),
            (FIXED, [(2, (1,))], [(2, (1,))]),
        ]:
            job = plain_job([3], [rim], "([1 1] + [1 -1])", 2)
            self.told(readers_of(job, (1, (0,))), low)
            self.told(readers_of(job, (1, (1,))), [(2, (0,)), (2, (2,))])
            self.told(readers_of(job, (1, (2,))), high)

    def test_one_to_three_rounds_back(self):
        job = plain_job([3], [ROUND], "(([1 0] + [2 1]) + [3 -1])", 5)
        self.told(leans_of(job, (5, (0,))), [(2, (2,)), (3, (1,)), (4, (0,))])
        self.told(leans_of(job, (3, (2,))), [(1, (0,)), (2, (2,))])
        self.told(leans_of(job, (2, (1,))), [(1, (1,))])
        self.told(readers_of(job, (1, (0,))), [(2, (0,)), (3, (2,)), (4, (1,))])
        self.told(readers_of(job, (3, (1,))), [(4, (1,)), (5, (0,))])
        self.told(readers_of(job, (5, (1,))), [])

    def test_two_takes_that_reach_one_spot(self):
        job = plain_job([3], [ROUND], "([1 -1] + [1 2])", 2)
        self.told(leans_of(job, (2, (0,))), [(1, (2,))])
        self.told(readers_of(job, (1, (2,))), [(2, (0,))])
        job = plain_job([2], [MIRROR], "([1 -1] + [1 0])", 2)
        self.told(leans_of(job, (2, (0,))), [(1, (0,))])
        self.told(readers_of(job, (1, (0,))), [(2, (0,)), (2, (1,))])

    def test_first_worths_and_fixed_rims_are_not_told(self):
        job = plain_job([2], [FIXED], "([1 -1] + [3 0])", 3)
        for spot in [(1, (0,)), (1, (1,)), (2, (0,)), (3, (0,))]:
            self.told(leans_of(job, spot), [])
        self.told(leans_of(job, (3, (1,))), [(2, (0,))])
        self.told(readers_of(job, (1, (1,))), [])
        self.told(readers_of(job, (1, (0,))), [(2, (1,))])

    def test_planes_and_choices_not_taken(self):
        job = plain_job([2, 3], [ROUND, FIXED], "(0 ? [1 1 -1] : [2 0 0])", 3)
        self.told(leans_of(job, (3, (1, 2))), [(1, (1, 2)), (2, (0, 1))])
        self.told(leans_of(job, (3, (1, 0))), [(1, (1, 0))])
        self.told(readers_of(job, (1, (0, 1))), [(2, (1, 2)), (3, (0, 1))])

    def test_a_job_without_takes(self):
        job = plain_job([3], [ROUND], "4", 3)
        for spot in job.all_spots():
            self.told(leans_of(job, spot), [])
            self.told(readers_of(job, spot), [])

    def test_many_jobs(self):
        dice = Dice(41)
        for _ in range(60):
            job = thrown_job(dice)
            for spot in job.all_spots():
                self.told(leans_of(job, spot), sorted(leaned_on(job, spot)))
                self.told(readers_of(job, spot), [s for s in job.all_spots() if spot in leaned_on(job, s)])

    def test_told_lists_are_the_askers_own(self):
        job = plain_job([3], [ROUND], "([1 0] + [1 1])", 2)
        for tell, spot in [(leans_of, (2, (0,))), (readers_of, (1, (1,)))]:
            before = list(tell(job, spot))
            tell(job, spot).append("more")
            tell(job, spot).clear()
            self.told(tell(job, spot), before)


class Reach(unittest.TestCase):
    def reach(self, reach, text, lines=1):
        self.assertTrue(is_same(reach_of(plain_job([3] * lines, [ROUND] * lines, text, 2)), reach), text)

    def test_steps_up_and_down(self):
        for step in range(10):
            self.reach([step], f"[1 {step}]")
            self.reach([step], f"[1 -{step}]" if step else "[1 0]")
        self.reach([5], "([1 5] + [1 -4])")
        self.reach([5], "([1 4] + [1 -5])")

    def test_steps_that_are_no_multiple_of_the_back(self):
        for back, step, reach in [
            (2, 3, 2), (2, 1, 1), (2, 2, 1), (2, 9, 5), (2, 8, 4), (3, 1, 1), (3, 3, 1), (3, 4, 2), (3, 9, 3), (3, 7, 3),
            (3, 8, 3), (3, 6, 2), (2, 0, 0), (3, 0, 0),
        ]:
            self.reach([reach], f"[{back} {step}]")
            if step:
                self.reach([reach], f"[{back} -{step}]")

    def test_several_takes(self):
        self.reach([3], "(([1 -2] + [2 5]) + [3 -6])")
        self.reach([2], "(([1 2] + [2 -3]) + [3 6])")

    def test_several_lines(self):
        self.reach([0, 2], "([1 0 -1] + [2 0 3])", 2)
        self.reach([1, 0], "([1 -1 0] + [2 2 0])", 2)
        self.reach([4, 0, 3], "([1 -4 0 0] + [3 0 0 9])", 3)
        self.reach([0, 0, 0], "[2 0 0 0]", 3)

    def test_a_job_without_takes(self):
        for lines in [1, 2, 3]:
            self.reach([0] * lines, "(1 + 2)", lines)

    def test_rims_and_rounds_play_no_part(self):
        for rim in [ROUND, MIRROR, FIXED]:
            for rounds in [0, 1, 12]:
                self.assertEqual(reach_of(plain_job([1], [rim], "[2 3]", rounds)), [2])

    def test_the_told_list_is_the_askers_own(self):
        job = plain_job([3], [ROUND], "[1 2]", 2)
        reach_of(job).append(9)
        self.assertEqual(reach_of(job), [2])


class LastUse(unittest.TestCase):
    def last(self, job, row, told):
        before = list(row)
        self.assertTrue(is_same(last_use(job, row), told))
        self.assertEqual(row, before)

    def setUp(self):
        # (2, x) leans on (1, x) and (1, x + 1), and at the end on (1, x) alone.
        self.job = plain_job([2], [FIXED], "([1 0] + [1 1])", 2)
        self.a, self.b, self.c, self.d = self.job.all_spots()

    def test_a_row_that_rises(self):
        a, b, c, d = self.a, self.b, self.c, self.d
        self.last(self.job, [a, b, c, d], {a: 2, b: 3, c: 2, d: 3})

    def test_a_row_that_falls(self):
        a, b, c, d = self.a, self.b, self.c, self.d
        self.last(self.job, [d, c, b, a], {a: 1, b: 1, c: 1, d: 0})

    def test_rows_in_any_order(self):
        a, b, c, d = self.a, self.b, self.c, self.d
        self.last(self.job, [b, d, a, c], {a: 3, b: 3, c: 3, d: 1})
        self.last(self.job, [c, a, b, d], {a: 0, b: 3, c: 0, d: 3})
        self.last(self.job, [d, a, c, b], {a: 2, b: 2, c: 2, d: 0})

    def test_spots_on_which_none_leans(self):
        job = plain_job([2], [ROUND], "3", 2)
        row = list(reversed(job.all_spots()))
        self.last(job, row, {spot: place for place, spot in enumerate(row)})
        self.last(plain_job([2], [ROUND], "[1 0]", 0), [], {})

    def test_many_jobs(self):
        dice = Dice(43)
        for _ in range(60):
            job = thrown_job(dice)
            row = dice.mixed(job.all_spots())
            told = {}
            for place, spot in enumerate(row):
                told[spot] = max([at for at, other in enumerate(row) if spot in leaned_on(job, other)], default=place)
            self.last(job, row, told)

    def test_the_told_dict_is_the_askers_own(self):
        row = self.job.all_spots()
        before = dict(last_use(self.job, row))
        last_use(self.job, row).clear()
        self.last(self.job, row, before)


class Depths(unittest.TestCase):
    def depths(self, job, rows):
        """Check the depths, told row by row."""
        told = {}
        for round_at, row in enumerate(rows, start=1):
            told.update({(round_at, place): depth for place, depth in zip(job.grid.all_places(), row)})
        self.assertTrue(is_same(depths_of(job), told))

    def test_one_round_back(self):
        self.depths(plain_job([2], [ROUND], "[1 1]", 4), [[1, 1], [2, 2], [3, 3], [4, 4]])

    def test_several_backs(self):
        self.depths(plain_job([2], [ROUND], "[2 0]", 5), [[1, 1], [1, 1], [2, 2], [2, 2], [3, 3]])
        self.depths(plain_job([1], [MIRROR], "[3 1]", 7), [[1], [1], [1], [2], [2], [2], [3]])
        self.depths(plain_job([1], [MIRROR], "([3 1] + [1 0])", 4), [[1], [2], [3], [4]])
        # One round back goes up by one place and is soon out; two rounds back goes on.
        job = plain_job([3], [FIXED], "([1 -1] + [2 0])", 5)
        self.depths(job, [[1, 1, 1], [1, 2, 2], [2, 2, 3], [2, 3, 3], [3, 3, 4]])

    def test_fixed_rims(self):
        self.depths(plain_job([4], [FIXED], "[1 -1]", 3), [[1, 1, 1, 1], [1, 2, 2, 2], [1, 2, 3, 3]])
        self.depths(plain_job([2, 2], [FIXED, FIXED], "[1 1 -1]", 3), [[1, 1, 1, 1], [1, 2, 1, 1], [1, 2, 1, 1]])

    def test_without_takes_and_without_rounds(self):
        self.depths(plain_job([3], [ROUND], "7", 3), [[1, 1, 1]] * 3)
        self.depths(plain_job([3], [ROUND], "[1 0]", 0), [])

    def test_120_spots(self):
        text = "((([1 0 0] + [1 1 0]) + ([1 0 1] + [2 1 1])) + ([1 -1 0] + [1 0 -1]))"
        job = plain_job([2, 5], [ROUND, ROUND], text, 12)
        self.depths(job, [[round_at] * 10 for round_at in range(1, 13)])
        job = plain_job([5, 8], [ROUND, MIRROR], text, 3)
        self.depths(job, [[round_at] * 40 for round_at in range(1, 4)])

    def test_many_jobs(self):
        dice = Dice(47)
        for _ in range(60):
            job = thrown_job(dice)

            def longest(spot):
                return 1 + max([longest(made) for made in leaned_on(job, spot)], default=0)

            spots = [spot for spot in job.all_spots() if spot[0] < 6]
            depths = depths_of(job)
            self.assertEqual(sorted(depths), job.all_spots())
            self.assertTrue(is_same([depths[spot] for spot in spots], [longest(spot) for spot in spots]))

    def test_the_told_dict_is_the_askers_own(self):
        job = plain_job([2], [ROUND], "[1 1]", 2)
        depths_of(job).clear()
        self.depths(job, [[1, 1], [2, 2]])


if __name__ == "__main__":
    unittest.main()

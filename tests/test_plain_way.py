"""Stage 3: the plain way."""

import unittest

from helper import is_same, made, odd_things, refused
from slanttiles.errors import NoJob
from slanttiles.plain_way import plain_round, plain_worths


class PlainWay(unittest.TestCase):
    def rows_are(self, job, rows):
        """Check the rows of all rounds, first worths among them, and the dict."""
        rounds = range(1 - job.deep(), job.rounds + 1)
        self.assertTrue(is_same([plain_round(job, round_at) for round_at in rounds], rows))
        places = job.grid.all_places()
        worths = {}
        for round_at, row in zip(rounds, rows):
            if round_at > 0:
                worths.update({(round_at, place): worth for place, worth in zip(places, row)})
        self.assertTrue(is_same(plain_worths(job), worths))

    def test_a_line_that_goes_round(self):
        job = made([4], [("round",)], "([1 -1] + [1 1])", 10, 3, [[1, 2, 3, 4]])
        self.rows_are(job, [[1, 2, 3, 4], [6, 4, 6, 4], [8, 2, 8, 2], [4, 6, 4, 6]])

    def test_a_line_with_mirrors(self):
        job = made([3], [("mirror",)], "([1 -1] + [1 1])", 100, 3, [[1, 2, 5]])
        self.rows_are(job, [[1, 2, 5], [3, 6, 7], [9, 10, 13], [19, 22, 23]])

    def test_a_line_with_a_fixed_rim_beyond_the_modulus(self):
        job = made([2], [("fixed", 12)], "([1 -1] - [1 1])", 10, 2, [[3, 4]])
        self.rows_are(job, [[3, 4], [8, 1], [1, 6]])

    def test_two_and_three_rounds_back(self):
        job = made([1], [("mirror",)], "([1 0] + [2 0])", 100, 8, [[0], [1]])
        self.rows_are(job, [[0], [1], [1], [2], [3], [5], [8], [13], [21], [34]])
        job = made([1], [("round",)], "(([3 0] * 2) - [1 5])", 7, 4, [[1], [2], [3]])
        self.rows_are(job, [[1], [2], [3], [6], [5], [1], [4]])

    def test_a_plane(self):
        job = made([2, 2], [("round",), ("fixed", 9)], "([1 1 0] + ([1 0 1] rest 4))", 6, 2, [[0, 1, 2, 3]])
        # Round 1: 2 + 1, 3 + 9 rest 4, 0 + 3, 1 + 9 rest 4, then the same with 3 4 3 2.
        self.rows_are(job, [[0, 1, 2, 3], [3, 4, 3, 2], [3, 3, 5, 5]])

    def test_choices(self):
        job = made([3], [("fixed", 0)], "(([1 -1] - [1 0]) ? [1 -1] : ([1 0] max 1))", 50, 2, [[0, 7, 3]])
        self.rows_are(job, [[0, 7, 3], [1, 7, 7], [1, 7, 7]])

    def test_a_term_without_takes(self):
        job = made([2], [("round",)], "-3", 5, 2, [[4, 1]])
        self.rows_are(job, [[4, 1], [2, 2], [2, 2]])

    def test_no_rounds(self):
        job = made([2], [("round",)], "[2 0]", 5, 0, [[4, 1], [0, 3]])
        self.rows_are(job, [[4, 1], [0, 3]])
        self.assertEqual(plain_worths(job), {})
        refused(self, NoJob, "rounds", plain_round, job, 1)

    def test_each_spot_comes_of_those_ahead(self):
        job = made(
            [3, 2], [("mirror",), ("fixed", 31)], "((([1 -1 0] * 3) + [2 1 -1]) - ([3 0 1] min [1 0 0]))", 29, 7,
            [[1, 2, 3, 4, 5, 6], [6, 5, 4, 3, 2, 1], [0, 28, 0, 28, 0, 28]],
        )
        worths = plain_worths(job)
        self.assertEqual(sorted(worths), job.all_spots())
        for spot in job.all_spots():
            self.assertEqual(worths[spot], job.next_worth(spot, lambda made: worths[made]))
            self.assertTrue(0 <= worths[spot] < 29)

    def test_120_spots(self):
        job = made([5, 8], [("round",), ("round",)], "([1 0 0] + 1)", 10 ** 9, 3, [list(range(40))])
        self.assertEqual(plain_round(job, 3), list(range(3, 43)))
        self.assertEqual(len(plain_worths(job)), 120)

    def test_rounds_of_anything(self):
        job = made([2], [("round",)], "[2 0]", 5, 3, [[4, 1], [0, 3]])
        for thing in odd_things() + [-2, 4, -3, 13, 10 ** 39, -10 ** 39, "1", "0", [1], (1,)]:
            refused(self, NoJob, "rounds", plain_round, job, thing)

    def test_what_is_told_is_the_askers_own(self):
        job = made([2], [("round",)], "[2 0]", 5, 3, [[4, 1], [0, 3]])
        for round_at in range(-1, 4):
            row = plain_round(job, round_at)
            row[0] = 99
            row.append(7)
        worths = plain_worths(job)
        worths[(1, (0,))] = 99
        worths.clear()
        self.rows_are(job, [[4, 1], [0, 3], [4, 1], [0, 3], [4, 1]])
        self.assertEqual(job.first, [[4, 1], [0, 3]])


if __name__ == "__main__":
    unittest.main()

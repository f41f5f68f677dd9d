"""Stage 3: jobs."""

import unittest

from helper import Odd, is_same, odd_things, refused
from slanttiles.errors import NoJob, NoTerm
from slanttiles.jobs import Job
from slanttiles.places import Grid
from slanttiles.term_texts import read_term
from slanttiles.terms import Added, Number, Rest, Take

LINE = Grid([3], [("round",)])
PLANE = Grid([2, 3], [("mirror",), ("fixed", 500)])
ROOM = Grid([2, 2, 2], [("round",), ("mirror",), ("fixed", 1)])
FORTY = Grid([5, 8], [("round",), ("round",)])


def zeros(deep, many):
    return [[0] * many for _ in range(deep)]


def never(spot):
    raise AssertionError(f"{spot} is asked")


class MakingJobs(unittest.TestCase):
    def refused(self, at, *given):
        refused(self, NoJob, at, Job, *given)

    def test_values(self):
        term = read_term("([1 0] + [2 -1])")
        first = [[1, 2, 3], [4, 5, 6]]
        job = Job(LINE, term, 7, 4, first)
        self.assertIs(job.grid, LINE)
        self.assertIs(job.term, term)
        self.assertTrue(is_same([job.modulus, job.rounds, job.first], [7, 4, [[1, 2, 3], [4, 5, 6]]]))

    def test_jobs_of_each_count_of_lines(self):
        for grid, text in [(LINE, "[1 1]"), (PLANE, "[1 0 -1]"), (ROOM, "[1 0 -1 9]")]:
            many = grid.places_many()
            self.assertEqual(Job(grid, read_term(text), 5, 3, zeros(1, many)).deep(), 1)
            self.assertEqual(Job(grid, Number(3), 5, 3, zeros(1, many)).deep(), 1)

    def test_deep(self):
        for text, deep in [
            ("5", 1), ("[1 0]", 1), ("[2 0]", 2), ("[3 0]", 3), ("([3 0] + [1 0])", 3), ("([1 0] + [2 0])", 2),
            ("(0 ? [3 1] : [1 0])", 3),
        ]:
            job = Job(LINE, read_term(text), 9, 2, zeros(deep, 3))
            self.assertTrue(is_same(job.deep(), deep))
            for other in range(5):
                if other != deep:
                    self.refused("first", LINE, read_term(text), 9, 2, zeros(other, 3))

    def test_terms_are_looked_over_first(self):
        for at, term in [
            ("number", Number(True)), ("by", Rest(Number(1), 0)), ("back", Take(4, (0,))), ("steps", Take(1, (10,))),
            ("lines", Added(Take(1, (0,)), Take(1, (0, 0)))),
        ]:
            refused(self, NoTerm, at, Job, LINE, term, None, None, None)

    def test_lines(self):
        for grid in [LINE, PLANE, ROOM]:
            for many in [1, 2, 3]:
                if many != grid.lines():
                    self.refused("lines", grid, Take(1, (0,) * many), None, None, None)
                    self.refused("lines", grid, Take(1, (0,) * many), 5, 1, zeros(1, grid.places_many()))

    def test_modulus(self):
        for modulus in [2, 3, 10 ** 9]:
            self.assertEqual(Job(LINE, Number(1), modulus, 1, [[0, 0, 1]]).modulus, modulus)
        for modulus in odd_things() + [1, 0, -2, 10 ** 9 + 1, 10 ** 39]:
            self.refused("modulus", LINE, Number(1), modulus, None, None)
            self.refused("modulus", LINE, Number(1), modulus, 1, [[0, 0, 0]])

    def test_rounds(self):
        for rounds in range(13):
            job = Job(LINE, Number(1), 2, rounds, [[0, 0, 0]])
            self.assertEqual(job.rounds, rounds)
            self.assertEqual(len(job.all_spots()), 3 * rounds)
        for rounds in odd_things() + [-1, 13, 14, 10 ** 39, -10 ** 39]:
            self.refused("rounds", LINE, Number(1), 2, rounds, None)
            self.refused("rounds", LINE, Number(1), 2, rounds, [[0, 0, 0]])

    def test_at_most_120_spots(self):
        self.assertEqual(len(Job(FORTY, Number(1), 2, 3, zeros(1, 40)).all_spots()), 120)
        self.refused("rounds", FORTY, Number(1), 2, 4, zeros(1, 40))
        ten = Grid([2, 5], [("round",), ("round",)])
        self.assertEqual(len(Job(ten, Number(1), 2, 12, zeros(1, 10)).all_spots()), 120)
        twelve = Grid([3, 4], [("round",), ("round",)])
        self.assertEqual(len(Job(twelve, Number(1), 2, 10, zeros(1, 12)).all_spots()), 120)
        self.refused("rounds", twelve, Number(1), 2, 11, zeros(1, 12))

    def test_first_worths(self):
        term = read_term("([1 0] + [2 0])")
        self.assertEqual(Job(LINE, term, 5, 2, [[0, 4, 1], [4, 0, 0]]).first, [[0, 4, 1], [4, 0, 0]])
        fine = [0, 1, 2]
        for row in odd_things() + [[0, 1], [0, 1, 2, 3], (0, 1, 2), "012", 0]:
            self.refused("first", LINE, term, 5, 2, [row, fine])
            self.refused("first", LINE, term, 5, 2, [fine, row])
        for worth in odd_things() + [-1, 5, 6, 10 ** 39]:
            self.refused("first", LINE, term, 5, 2, [[0, worth, 0], fine])
            self.refused("first", LINE, term, 5, 2, [fine, [0, 0, worth]])
        for first in odd_things() + [
            [fine], [fine] * 3, (fine, fine), (tuple(fine), tuple(fine)), [0, 1], 5, {0: fine, 1: fine}, [fine, Odd()],
        ]:
            self.refused("first", LINE, term, 5, 2, first)

    def test_first_worths_without_rounds_are_looked_at(self):
        self.refused("first", LINE, Number(1), 5, 0, [])
        self.refused("first", LINE, Number(1), 5, 0, [[0, 0, 5]])

    def test_the_order_in_which_refusals_are_due(self):
        self.refused("lines", PLANE, Take(1, (0,)), 1, 13, [])
        self.refused("modulus", LINE, Take(1, (0,)), 1, 13, [])
        self.refused("rounds", LINE, Take(1, (0,)), 2, 13, [])
        self.refused("rounds", FORTY, Number(1), 2, 4, [])
        self.refused("first", LINE, Take(1, (0,)), 2, 12, [])

    def test_rows_are_copied(self):
        first = [[1, 2, 3], [4, 5, 6]]
        job = Job(LINE, read_term("[2 0]"), 7, 3, first)
        self.assertEqual(first, [[1, 2, 3], [4, 5, 6]])
        self.assertIsNot(job.first, first)
        first[0][0] = 6
        first[1].append(9)
        first.append(None)
        self.assertEqual(job.first, [[1, 2, 3], [4, 5, 6]])
        self.assertEqual(job.next_worth((1, (0,)), never), 1)

    def test_refused_rows_stay(self):
        first = [[1, 2, 9]]
        self.refused("first", LINE, Number(1), 7, 3, first)
        self.assertEqual(first, [[1, 2, 9]])


class Spots(unittest.TestCase):
    def test_all_spots_rise(self):
        job = Job(PLANE, Number(1), 2, 2, zeros(1, 6))
        spots = job.all_spots()
        self.assertTrue(is_same(spots, [(t, (a, b)) for t in [1, 2] for a in [0, 1] for b in [0, 1, 2]]))
        self.assertEqual(spots, sorted(set(spots)))
        self.assertEqual(Job(PLANE, Number(1), 2, 0, zeros(1, 6)).all_spots(), [])

    def test_told_spots_are_the_askers_own(self):
        job = Job(LINE, Number(1), 2, 1, zeros(1, 3))
        job.all_spots().append((9, 9))
        job.all_spots().clear()
        self.assertEqual(job.all_spots(), [(1, (0,)), (1, (1,)), (1, (2,))])

    def test_is_spot_of_anything(self):
        job = Job(LINE, read_term("[2 0]"), 2, 4, zeros(2, 3))
        for spot in job.all_spots():
            self.assertIs(job.is_spot(spot), True)
        wrong = odd_things() + [
            (0, (0,)), (5, (0,)), (-1, (0,)), (True, (0,)), (1, (True,)), (1, (False,)), (1, (3,)), (1, (-1,)), (1, ()),
            (1, (0, 0)), (1, [0]), (1, 0), [1, (0,)], (1,), (1, (0,), 0), (1, None), (None, (0,)), ("1", (0,)),
            ((1,), (0,)), ([1], [0]), ({}, {}), (1, {}), (1, ([],)), 1, "1@0", (Odd(), (0,)), (1, Odd()), (1, (Odd(),)),
            ((0,), 1), (10 ** 39, (0,)), (1, (10 ** 39,)),
        ]
        for thing in wrong:
            self.assertIs(job.is_spot(thing), False, thing)
        empty = Job(LINE, Number(1), 2, 0, zeros(1, 3))
        self.assertIs(empty.is_spot((0, (0,))), False)
        self.assertIs(empty.is_spot((1, (0,))), False)


class Reads(unittest.TestCase):
    def test_reads_through_each_rim(self):
        for rim, first_where, last_where in [
            (("round",), ("spot", (1, (2,))), ("spot", (1, (0,)))),
            (("mirror",), ("spot", (1, (0,))), ("spot", (1, (2,)))),
            (("fixed", 60), ("rim", 60), ("rim", 60)),
        ]:
            job = Job(Grid([3], [rim]), read_term("([1 1] + [1 -1])"), 5, 2, zeros(1, 3))
            left, right = (1, (-1,)), (1, (1,))
            told = [(left, first_where), (right, ("spot", (1, (1,))))]
            self.assertTrue(is_same(job.reads_of((2, (0,))), told))
            told = [(left, ("spot", (1, (1,)))), (right, last_where)]
            self.assertTrue(is_same(job.reads_of((2, (2,))), told))

    def test_back_to_the_first_worths(self):
        job = Job(LINE, read_term("(([3 0] + [1 0]) + [2 1])"), 5, 4, zeros(3, 3))
        takes = [(1, (0,)), (2, (1,)), (3, (0,))]
        self.assertEqual(
            job.reads_of((1, (2,))),
            list(zip(takes, [("first", (0, (2,))), ("first", (-1, (0,))), ("first", (-2, (2,)))])),
        )
        self.assertEqual(
            job.reads_of((3, (0,))),
            list(zip(takes, [("spot", (2, (0,))), ("spot", (1, (1,))), ("first", (0, (0,)))])),
        )
        self.assertEqual(
            job.reads_of((4, (1,))),
            list(zip(takes, [("spot", (3, (1,))), ("spot", (2, (2,))), ("spot", (1, (1,)))])),
        )

    def test_a_rim_is_told_in_the_first_rounds_too(self):
        job = Job(PLANE, read_term("([1 -1 -1] + [2 0 9])"), 5, 2, zeros(2, 6))
        self.assertEqual(job.reads_of((1, (0, 0))), [((1, (-1, -1)), ("rim", 500)), ((2, (0, 9)), ("rim", 500))])
        self.assertEqual(job.reads_of((2, (0, 1)))[0], ((1, (-1, -1)), ("spot", (1, (0, 0)))))

    def test_takes_in_their_order_whatever_is_chosen(self):
        job = Job(LINE, read_term("(0 ? [2 0] : ([1 9] * 0))"), 5, 3, zeros(2, 3))
        self.assertEqual(
            job.reads_of((3, (0,))), [((1, (9,)), ("spot", (2, (0,)))), ((2, (0,)), ("spot", (1, (0,))))],
        )
        self.assertEqual(Job(LINE, Number(1), 5, 3, zeros(1, 3)).reads_of((2, (0,))), [])

    def test_takes_that_read_the_same_spot_stand_apart(self):
        job = Job(LINE, read_term("([1 0] + [1 3])"), 5, 2, zeros(1, 3))
        same = ("spot", (1, (1,)))
        self.assertEqual(job.reads_of((2, (1,))), [((1, (0,)), same), ((1, (3,)), same)])

    def test_told_reads_are_the_askers_own(self):
        job = Job(LINE, read_term("[1 0]"), 5, 2, [[1, 2, 3]])
        job.reads_of((1, (0,))).clear()
        self.assertEqual(job.reads_of((1, (0,))), [((1, (0,)), ("first", (0, (0,))))])
        self.assertEqual(job.next_worth((1, (0,)), never), 1)


class NextWorths(unittest.TestCase):
    def worth(self, job, spot, worths):
        known = [where[1] for take, where in job.reads_of(spot) if where[0] == "spot"]

        def get(made):
            self.assertIn(made, known)
            return worths[made]

        worth = job.next_worth(spot, get)
        self.assertIs(type(worth), int)
        return worth

    def test_spots_first_worths_and_numbers(self):
        job = Job(LINE, read_term("(([1 0] * 10) + [2 -1])"), 1000, 3, [[1, 2, 3], [4, 5, 6]])
        self.assertEqual(self.worth(job, (1, (0,)), {}), 43)
        self.assertEqual(self.worth(job, (1, (2,)), {}), 62)
        self.assertEqual(self.worth(job, (2, (1,)), {(1, (1,)): 7}), 74)
        self.assertEqual(self.worth(job, (3, (0,)), {(2, (0,)): 9, (1, (2,)): 8}), 98)

    def test_first_worths_of_planes_go_by_the_places_order(self):
        job = Job(PLANE, read_term("[1 0 0]"), 10, 1, [[1, 2, 3, 4, 5, 6]])
        self.assertEqual([self.worth(job, spot, {}) for spot in job.all_spots()], [1, 2, 3, 4, 5, 6])
        job = Job(ROOM, read_term("[3 0 0 0]"), 90, 3, [list(range(k, k + 8)) for k in [10, 30, 50]])
        told = [self.worth(job, spot, {}) for spot in job.all_spots()]
        self.assertEqual(told, list(range(10, 18)) + list(range(30, 38)) + list(range(50, 58)))

    def test_a_rims_value_no_less_than_the_modulus_is_taken_as_it_is(self):
        grid = Grid([2], [("fixed", 500)])
        job = Job(grid, read_term("(([1 -1] - 499) * 3)"), 7, 1, [[1, 2]])
        self.assertEqual(self.worth(job, (1, (0,)), {}), 3)
        job = Job(grid, read_term("[1 -1]"), 7, 1, [[1, 2]])
        self.assertEqual(self.worth(job, (1, (0,)), {}), 500 % 7)
        job = Job(grid, read_term("([1 -1] min 499)"), 1000, 1, [[1, 2]])
        self.assertEqual(self.worth(job, (1, (0,)), {}), 499)
        job = Job(grid, read_term("(([1 -1] - 450) ? 1 : 0)"), 7, 1, [[1, 2]])
        self.assertEqual(self.worth(job, (1, (0,)), {}), 1)

    def test_a_value_below_0(self):
        job = Job(LINE, read_term("([1 0] - 9)"), 7, 1, [[1, 2, 3]])
        self.assertEqual([self.worth(job, spot, {}) for spot in job.all_spots()], [6, 0, 1])
        job = Job(LINE, Number(-10 ** 12), 10 ** 9, 1, [[1, 2, 3]])
        self.assertEqual(self.worth(job, (1, (0,)), {}), 0)
        job = Job(LINE, Number(-1), 10 ** 9, 1, [[1, 2, 3]])
        self.assertEqual(self.worth(job, (1, (0,)), {}), 10 ** 9 - 1)

    def test_only_spots_that_the_spot_reads_are_asked(self):
        asked = []

        def get(spot):
            asked.append(spot)
            return 1

        job = Job(LINE, read_term("(([1 1] + [2 0]) + [3 0])"), 7, 4, zeros(3, 3))
        for spot in job.all_spots():
            asked.clear()
            job.next_worth(spot, get)
            known = [where[1] for take, where in job.reads_of(spot) if where[0] == "spot"]
            self.assertEqual(sorted(set(asked)), sorted(set(known)))
        asked.clear()
        Job(LINE, Number(4), 7, 4, zeros(1, 3)).next_worth((3, (0,)), get)
        self.assertEqual(asked, [])


if __name__ == "__main__":
    unittest.main()

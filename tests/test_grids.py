"""Stage 1: grids."""

import itertools
import unittest

from helper import Odd, is_same, odd_things, refused
from slanttiles.errors import NoGrid
from slanttiles.places import Grid

FIXED = ("fixed", 7)
MIRROR = ("mirror",)
ROUND = ("round",)
RIMS = [FIXED, MIRROR, ROUND]


def walked(size, number):
    """Where a line that goes to and fro leads, walked one number at a time."""
    at, way = 0, 1
    ahead = abs(number) if number >= 0 else abs(number) - 1
    # Beyond the low end the line is met mirrored: -1 is where 0 is, -2 where 1 is.
    for _ in range(ahead):
        if 0 <= at + way < size:
            at += way
        else:
            way = -way
    return at


class MakingGrids(unittest.TestCase):
    def made(self, sizes, rims):
        grid = Grid(sizes, rims)
        self.assertTrue(is_same(grid.sizes, sizes))
        self.assertTrue(is_same(grid.rims, rims))
        return grid

    def refused(self, at, sizes, rims):
        refused(self, NoGrid, at, Grid, sizes, rims)

    def test_all_counts_of_lines_and_rims(self):
        for many, size in [(1, 9), (2, 6), (3, 3)]:
            for rims in itertools.product(RIMS, repeat=many):
                grid = self.made([size] * many, list(rims))
                self.assertEqual(grid.lines(), many)
                self.assertEqual(grid.places_many(), size ** many)

    def test_sizes_at_their_borders(self):
        for size in range(1, 10):
            self.made([size], [ROUND])
        for size in [0, 10, -1, -9, 40, 10 ** 39, -10 ** 39]:
            self.refused(0, [size], [ROUND])
            self.refused(1, [1, size], [ROUND, MIRROR])
            self.refused(2, [1, 1, size], [ROUND, MIRROR, FIXED])

    def test_sizes_of_anything(self):
        for thing in odd_things():
            self.refused(0, [thing], [ROUND])
            self.refused(1, [2, thing, thing], [ROUND, ROUND, ROUND])

    def test_fixed_values_at_their_borders(self):
        for value in [0, 1, 10 ** 9 - 1, 10 ** 9]:
            self.made([3], [("fixed", value)])
        for value in [-1, 10 ** 9 + 1, -10 ** 9, 10 ** 39]:
            self.refused(0, [3], [("fixed", value)])
            self.refused(1, [3, 3], [MIRROR, ("fixed", value)])

    def test_fixed_values_of_anything(self):
        for thing in odd_things():
            self.refused(0, [3], [("fixed", thing)])

    def test_rims_of_another_form(self):
        wrong = odd_things() + [
            ("fixed",), ("fixed", 1, 2), ("fixed", 1, None), ("mirror", 1), ("mirror", None),
            ("round", 0), ("round", ()), ("mirror", "mirror"), ("Mirror",), ("ROUND",), ("Fixed", 1),
            ("other",), ("",), ("fixed ", 1), (b"round",), ["fixed", 1], ["mirror"], ["round"],
            "mirror", "round", ("fixed", "1"), ("fixed", (1,)), (("mirror",),), (1, "fixed"),
            (1,), (0,), 0, 1, 7, ("fixed", True), ("fixed", False), {"mirror": 1}, (["mirror"],),
            (Odd(), 1), ("mirror", Odd()), ("fixed", 1, Odd()),
        ]
        for rim in wrong:
            self.refused(0, [3], [rim])
            self.refused(1, [3, 3, 3], [ROUND, rim, rim])
            self.refused(2, [3, 3, 3], [ROUND, MIRROR, rim])

    def test_counts_of_lines(self):
        self.refused(None, [], [])
        self.refused(None, [], [ROUND])
        self.refused(None, [2], [])
        self.refused(None, [2], [ROUND, ROUND])
        self.refused(None, [2, 2], [ROUND])
        self.refused(None, [2, 2, 2], [ROUND, ROUND])
        self.refused(None, [2, 2], [ROUND, ROUND, ROUND])
        self.refused(None, [1, 1, 1, 1], [ROUND] * 4)
        self.refused(None, [1, 1, 1, 1], [ROUND] * 3)

    def test_counts_are_due_first(self):
        self.refused(None, [0], [])
        self.refused(None, [True, 10], [None])
        self.refused(None, [0, 0, 0, 0], [1, 2, 3, 4])
        self.refused(None, [9, 9, 9], [ROUND])

    def test_the_first_wrong_line_is_told(self):
        self.refused(0, [0, 2], [ROUND, None])
        self.refused(0, [2, 0], [None, ROUND])
        self.refused(1, [2, 0, 2], [ROUND, ROUND, None])
        self.refused(1, [2, 2, 0], [ROUND, None, ROUND])
        self.refused(0, [0, 0, 0], [None, None, None])

    def test_wrong_lines_are_due_ahead_of_too_many_places(self):
        self.refused(2, [9, 9, 10], [ROUND, ROUND, ROUND])
        self.refused(2, [9, 9, 9], [ROUND, ROUND, ("fixed", -1)])
        self.refused(1, [9, 9], [ROUND, ("fixed", True)])

    def test_at_most_forty_places(self):
        for sizes in [[5, 8], [8, 5], [2, 4, 5], [5, 8, 1], [1, 8, 5]]:
            self.assertEqual(self.made(sizes, [ROUND] * len(sizes)).places_many(), 40)
        for sizes in [[7, 6], [6, 7], [9, 5], [9, 9], [3, 7, 2], [9, 9, 9], [3, 3, 5]]:
            self.refused(None, sizes, [MIRROR] * len(sizes))


class TellingGrids(unittest.TestCase):
    def test_places_rise_and_stand_once(self):
        for sizes in [[1], [9], [4, 2], [2, 4], [5, 8], [1, 1, 1], [2, 3, 4], [3, 1, 2]]:
            grid = Grid(sizes, [ROUND] * len(sizes))
            places = grid.all_places()
            self.assertEqual(places, list(itertools.product(*[range(size) for size in sizes])))
            self.assertEqual(places, sorted(set(places)))
            self.assertEqual(len(places), grid.places_many())
            self.assertEqual(grid.lines(), len(sizes))
            self.assertTrue(all(type(number) is int for place in places for number in place))
            self.assertTrue(all(grid.has_place(place) for place in places))
            self.assertTrue(all(grid.has_place(place) is True for place in places))

    def test_one_small_grid_by_hand(self):
        grid = Grid([2, 3], [FIXED, MIRROR])
        self.assertEqual(grid.all_places(), [(0, 0), (0, 1), (0, 2), (1, 0), (1, 1), (1, 2)])
        self.assertEqual(grid.places_many(), 6)
        self.assertEqual(grid.lines(), 2)

    def test_told_lists_are_the_askers_own(self):
        grid = Grid([2, 2], [ROUND, ROUND])
        places = grid.all_places()
        places.append((9, 9))
        places[0] = None
        self.assertEqual(grid.all_places(), [(0, 0), (0, 1), (1, 0), (1, 1)])
        self.assertIsNot(grid.all_places(), grid.all_places())
        self.assertEqual(grid.places_many(), 4)

    def test_lists_handed_in_stay_and_may_change_behind(self):
        sizes, rims = [2, 3], [ROUND, ("fixed", 4)]
        grid = Grid(sizes, rims)
        self.assertEqual((sizes, rims), ([2, 3], [ROUND, ("fixed", 4)]))
        self.assertIsNot(grid.sizes, sizes)
        self.assertIsNot(grid.rims, rims)
        sizes[0] = 9
        sizes.append(5)
        rims[1] = MIRROR
        rims.append(None)
        self.assertEqual(grid.sizes, [2, 3])
        self.assertEqual(grid.rims, [ROUND, ("fixed", 4)])
        self.assertEqual(grid.places_many(), 6)
        self.assertEqual(grid.beside((0, 2), (-1, 1)), ("rim", 4))

    def test_refused_lists_stay(self):
        sizes, rims = [2, 0], [ROUND, None]
        refused(self, NoGrid, 1, Grid, sizes, rims)
        self.assertEqual((sizes, rims), ([2, 0], [ROUND, None]))

    def test_has_place_of_anything(self):
        grids = [Grid([2], [ROUND]), Grid([2, 3], [ROUND, FIXED]), Grid([2, 3, 4], RIMS)]
        for grid in grids:
            for thing in odd_things() + [0, 1, 10 ** 39]:
                self.assertIs(grid.has_place(thing), False, thing)
        line, plane, room = grids
        self.assertIs(line.has_place((1,)), True)
        for thing in [(2,), (-1,), (0, 0), (True,), (False,), ("0",), [0], ([0],), ({},), ((0,),), 0, "0"]:
            self.assertIs(line.has_place(thing), False, thing)
        self.assertIs(plane.has_place((1, 2)), True)
        for thing in [
            (2, 0), (0, 3), (-1, 0), (0, -1), (0,), (0, 0, 0), (True, 1), (1, True), (0, False), [0, 0],
            (0, [0]), ({}, 0), (0, None), (None, 0), (0, "1"), "01", (0, (0,)), (0, 10 ** 39), (Odd(), 0), (0, Odd()),
        ]:
            self.assertIs(plane.has_place(thing), False, thing)
        self.assertIs(room.has_place((1, 2, 3)), True)
        for thing in [(1, 2, 4), (1, 3, 3), (2, 2, 3), (1, 2), (1, 2, 3, 0), (1, 2, True), [1, 2, 3]]:
            self.assertIs(room.has_place(thing), False, thing)


class BesidePlaces(unittest.TestCase):
    def test_hand_reckoned_mirror(self):
        grid = Grid([4], [MIRROR])
        seen = [grid.beside((0,), (step,))[1][0] for step in range(-9, 10)]
        self.assertEqual(seen, [0, 0, 1, 2, 3, 3, 2, 1, 0, 0, 1, 2, 3, 3, 2, 1, 0, 0, 1])

    def test_hand_reckoned_round(self):
        grid = Grid([4], [ROUND])
        seen = [grid.beside((1,), (step,))[1][0] for step in range(-9, 10)]
        self.assertEqual(seen, [0, 1, 2, 3, 0, 1, 2, 3, 0, 1, 2, 3, 0, 1, 2, 3, 0, 1, 2])

    def test_lines_of_each_size_and_rim(self):
        for size in range(1, 10):
            for at in range(size):
                for step in range(-9, 10):
                    number = at + step
                    out = not 0 <= number < size
                    fixed = ("rim", 7) if out else ("place", (number,))
                    tellings = [fixed, ("place", (walked(size, number),)), ("place", (number % size,))]
                    for rim, told in zip(RIMS, tellings):
                        self.assertTrue(is_same(Grid([size], [rim]).beside((at,), (step,)), told), (size, at, step, rim))

    def test_the_words_of_the_document_for_mirrors(self):
        for size in range(2, 10):
            grid = Grid([size], [MIRROR])
            self.assertEqual(grid.beside((0,), (-1,)), ("place", (0,)))
            self.assertEqual(grid.beside((0,), (-2,)), ("place", (1,)))
            self.assertEqual(grid.beside((size - 1,), (1,)), ("place", (size - 1,)))
            self.assertEqual(grid.beside((size - 1,), (2,)), ("place", (size - 2,)))

    def test_lines_of_size_one(self):
        for step in range(-9, 10):
            self.assertEqual(Grid([1], [MIRROR]).beside((0,), (step,)), ("place", (0,)))
            self.assertEqual(Grid([1], [ROUND]).beside((0,), (step,)), ("place", (0,)))
            told = ("place", (0,)) if step == 0 else ("rim", 7)
            self.assertEqual(Grid([1], [FIXED]).beside((0,), (step,)), told)

    def test_each_line_goes_by_itself(self):
        grid = Grid([3, 4, 3], [ROUND, MIRROR, FIXED])
        self.assertEqual(grid.beside((2, 3, 1), (1, 1, 1)), ("place", (0, 3, 2)))
        self.assertEqual(grid.beside((0, 0, 0), (-1, -2, 0)), ("place", (2, 1, 0)))
        self.assertEqual(grid.beside((0, 0, 0), (-1, -2, -1)), ("rim", 7))
        self.assertEqual(grid.beside((1, 1, 1), (0, 0, 0)), ("place", (1, 1, 1)))

    def test_the_first_line_that_is_out_tells_its_value(self):
        grid = Grid([2, 2, 2], [("fixed", 0), ("fixed", 5), ("fixed", 10 ** 9)])
        self.assertEqual(grid.beside((0, 0, 0), (-1, -1, -1)), ("rim", 0))
        self.assertEqual(grid.beside((0, 0, 0), (1, -1, 2)), ("rim", 5))
        self.assertEqual(grid.beside((0, 0, 0), (1, 1, 2)), ("rim", 10 ** 9))
        self.assertEqual(grid.beside((0, 0, 0), (2, 1, 2)), ("rim", 0))
        self.assertEqual(grid.beside((0, 0, 0), (1, 1, 1)), ("place", (1, 1, 1)))
        mixed = Grid([2, 2, 2], [ROUND, ("fixed", 5), ("fixed", 6)])
        self.assertEqual(mixed.beside((0, 0, 0), (-1, 9, 9)), ("rim", 5))
        self.assertEqual(mixed.beside((0, 0, 0), (-1, 0, 9)), ("rim", 6))

    def test_all_steps_of_a_plane(self):
        rims = [("fixed", 3), MIRROR]
        grid = Grid([3, 2], rims)
        lines = [Grid([3], [rims[0]]), Grid([2], [rims[1]])]
        for place in grid.all_places():
            for steps in itertools.product(range(-9, 10), repeat=2):
                apart = [line.beside((at,), (step,)) for line, at, step in zip(lines, place, steps)]
                if apart[0][0] == "rim":
                    told = ("rim", 3)
                else:
                    told = ("place", apart[0][1] + apart[1][1])
                self.assertEqual(grid.beside(place, steps), told)


if __name__ == "__main__":
    unittest.main()

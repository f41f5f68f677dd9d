"""Stage 5: what pieces lean on, rings, waves, and pieces that are fit."""

import itertools
import unittest

from helper import Dice, Odd, is_same, odd_things, plain_job, thrown_job
from slanttiles.leaning import leans_of
from slanttiles.piece_pairs import piece_pairs, ring_in, waves_of
from slanttiles.pieces import is_fit

# Two rounds of three places, each leaning on its own place and the one ahead of it.
LINE = plain_job([3], [("fixed", 5)], "([1 -1] + [1 0])", 2)
A, B, C, D, E, F = LINE.all_spots()


def thrown_pieces(dice, job, often):
    """Pieces in which spots stand in any order, some in several pieces or in none."""
    pieces = [[] for _ in range(dice.below(6))]
    if pieces:
        for spot in dice.mixed(job.all_spots()):
            for _ in range(dice.one_of(often)):
                dice.one_of(pieces).append(spot)
    return pieces


def thrown_pairs(dice, many, chance):
    """Pairs of numbers below many, perhaps with rings."""
    pairs = [(p, q) for p in range(many) for q in range(many) if dice.below(100) < chance]
    return dice.mixed(pairs + pairs[: dice.below(3)])


def steps_lead_round(pairs, many):
    """Tell by all ways whether some number leads to itself."""
    leads = {(p, q) for p, q in pairs}
    for middle, p, q in itertools.product(range(many), repeat=3):
        if (p, middle) in leads and (middle, q) in leads:
            leads.add((p, q))
    return any((number, number) in leads for number in range(many))


class Pairs(unittest.TestCase):
    def pairs(self, pairs, job, pieces):
        before = [list(piece) for piece in pieces]
        self.assertTrue(is_same(piece_pairs(job, pieces), pairs), pieces)
        self.assertEqual(pieces, before)

    def test_pieces_that_lean_one_way(self):
        self.pairs([(1, 0)], LINE, [[A, B, C], [D, E, F]])
        self.pairs([(0, 1)], LINE, [[D, E, F], [A, B, C]])
        self.pairs([(1, 0), (2, 0), (2, 1)], LINE, [[A, D], [B, E], [C, F, E]])
        self.pairs([(1, 0), (2, 1)], LINE, [[A, D], [B, E], [C, F]])
        self.pairs([(3, 0), (4, 0), (4, 1), (5, 1), (5, 2)], LINE, [[A], [B], [C], [D], [E], [F]])

    def test_pieces_that_lean_on_each_other(self):
        self.pairs([(0, 1), (1, 0)], LINE, [[A, F], [B, C, D, E]])
        self.pairs([(0, 1), (1, 0)], LINE, [[B, D], [A, E]])

    def test_a_piece_that_leans_on_itself_alone(self):
        self.pairs([], LINE, [[A, B, C, D, E, F]])
        self.pairs([], LINE, [[A, D]])
        self.pairs([], LINE, [[D, A], [B], [C]])

    def test_spots_in_several_pieces_or_in_none(self):
        self.pairs([(1, 0)], LINE, [[A], [D]])
        self.pairs([], LINE, [[B, C], [D]])
        self.pairs([(0, 1), (2, 0), (2, 1)], LINE, [[A, D], [A], [D, E]])
        self.pairs([(0, 1), (1, 0)], LINE, [[A, D], [A, D]])
        self.pairs([(0, 1)], LINE, [[D, D, D], [A, A]])

    def test_pieces_without_spots_and_no_pieces(self):
        self.pairs([], LINE, [])
        self.pairs([], LINE, [[], []])
        self.pairs([(3, 1)], LINE, [[], [A], [], [D]])

    def test_many_pieces(self):
        dice = Dice(61)
        for _ in range(150):
            job = thrown_job(dice)
            pieces = thrown_pieces(dice, job, [0, 1, 1, 2])
            pairs = set()
            for p, q in itertools.permutations(range(len(pieces)), 2):
                if any(made in pieces[q] for spot in pieces[p] for made in leans_of(job, spot)):
                    pairs.add((p, q))
            self.pairs(sorted(pairs), job, pieces)

    def test_the_told_list_is_the_askers_own(self):
        piece_pairs(LINE, [[A], [D]]).clear()
        self.pairs([(1, 0)], LINE, [[A], [D]])


class Rings(unittest.TestCase):
    def ring(self, pairs, many):
        """The ring told, checked to be one."""
        before = list(pairs)
        ring = ring_in(pairs, many)
        self.assertEqual(pairs, before)
        if ring is None:
            return None
        self.assertIs(type(ring), list)
        self.assertTrue(all(type(number) is int for number in ring))
        self.assertTrue(ring)
        self.assertEqual(len(ring), len(set(ring)))
        for number, behind in zip(ring, ring[1:] + ring[:1]):
            self.assertIn((number, behind), pairs)
        return ring

    def test_no_ring(self):
        for pairs, many in [
            ([], 0), ([], 1), ([], 60), ([(0, 1)], 2), ([(1, 0)], 2), ([(0, 1), (0, 1)], 2), ([(0, 1), (1, 2), (0, 2)], 3),
            ([(2, 0), (2, 1), (1, 0), (3, 2)], 5), ([(0, 2), (0, 1), (1, 3), (2, 3)], 4),
        ]:
            self.assertIsNone(self.ring(pairs, many), pairs)

    def test_a_number_that_leans_on_itself(self):
        self.assertEqual(self.ring([(0, 0)], 1), [0])
        self.assertEqual(self.ring([(0, 1), (2, 2), (2, 1), (3, 2)], 4), [2])

    def test_rings_of_two_and_of_many(self):
        self.assertEqual(sorted(self.ring([(0, 1), (1, 0)], 2)), [0, 1])
        self.assertEqual(sorted(self.ring([(3, 1), (0, 3), (1, 3), (3, 2)], 4)), [1, 3])
        for many in [3, 10, 60, 150]:
            pairs = [(number, (number + 1) % many) for number in range(many)]
            self.assertEqual(sorted(self.ring(pairs, many)), list(range(many)))
            self.assertEqual(sorted(self.ring(pairs[::-1] + pairs, many)), list(range(many)))

    def test_a_ring_with_ways_to_it_and_from_it(self):
        pairs = [(0, 1), (1, 2), (2, 3), (3, 1), (3, 4), (4, 5)]
        for mixed in itertools.permutations(pairs, 6):
            self.assertEqual(sorted(self.ring(list(mixed), 6)), [1, 2, 3])

    def test_several_rings(self):
        pairs = [(0, 1), (1, 0), (1, 2), (2, 3), (3, 4), (4, 2), (5, 5)]
        self.assertIn(sorted(self.ring(pairs, 6)), [[0, 1], [2, 3, 4], [5]])
        self.assertIn(sorted(self.ring(pairs[::-1], 6)), [[0, 1], [2, 3, 4], [5]])

    def test_many_pairs(self):
        dice = Dice(67)
        for chance in [2, 5, 10, 30, 90]:
            for many in range(9):
                for _ in range(8):
                    pairs = thrown_pairs(dice, many, chance)
                    found = self.ring(pairs, many) is not None
                    self.assertEqual(found, steps_lead_round(pairs, many), pairs)
                    self.assertEqual(found, waves_of(pairs, many) is None, pairs)

    def test_sixty_numbers_with_many_pairs(self):
        falling = [(p, q) for p in range(60) for q in range(p)]
        self.assertIsNone(self.ring(falling, 60))
        self.assertIsNone(self.ring([(q, p) for p, q in falling], 60))
        self.assertTrue(self.ring(falling + [(0, 59)], 60))
        self.assertTrue(self.ring([(p, q) for p in range(60) for q in range(60)], 60))


class Waves(unittest.TestCase):
    def waves(self, waves, pairs, many):
        before = list(pairs)
        self.assertTrue(is_same(waves_of(pairs, many), waves), (pairs, many))
        self.assertEqual(pairs, before)

    def test_by_hand(self):
        self.waves([], [], 0)
        self.waves([[0]], [], 1)
        self.waves([[0, 1, 2]], [], 3)
        self.waves([[0], [1]], [(1, 0)], 2)
        self.waves([[1], [0]], [(0, 1)], 2)
        self.waves([[0, 2], [1]], [(1, 0), (1, 0)], 3)
        self.waves([[0], [1], [2]], [(2, 0), (2, 1), (1, 0)], 3)
        self.waves([[3], [1, 2], [0]], [(0, 1), (0, 2), (1, 3), (2, 3)], 4)
        # 4 leans on 0 of the first wave, but on 3 of the third one too.
        self.waves([[0, 1], [2], [3], [4]], [(4, 0), (4, 3), (3, 2), (2, 1)], 5)
        self.waves([[1, 3, 5], [4], [0, 2]], [(2, 4), (0, 4), (4, 5), (0, 1), (4, 3)], 6)

    def test_rings(self):
        self.waves(None, [(0, 0)], 1)
        self.waves(None, [(0, 1), (1, 0)], 2)
        self.waves(None, [(1, 0), (2, 3), (3, 4), (4, 2)], 6)

    def test_many_pairs(self):
        dice = Dice(71)
        for _ in range(150):
            many = dice.below(12)
            order = dice.mixed(range(many))
            pairs = [(order[p], order[q]) for p in range(many) for q in range(p) if dice.below(100) < 25]

            def height(number):
                return 1 + max([height(q) for p, q in pairs if p == number], default=-1)

            waves = [[] for _ in range(max([height(number) + 1 for number in range(many)], default=0))]
            for number in range(many):
                waves[height(number)].append(number)
            self.waves(waves, dice.mixed(pairs), many)

    def test_sixty_numbers_with_many_pairs(self):
        falling = [(p, q) for p in range(60) for q in range(p)]
        self.waves([[number] for number in range(60)], falling, 60)
        self.waves([[59 - number] for number in range(60)], [(q, p) for p, q in falling], 60)
        self.waves(None, falling + [(0, 59)], 60)
        layers = [(p, q) for p in range(60) for q in range(60) if p // 2 == q // 2 + 1]
        self.waves([[p, p + 1] for p in range(0, 60, 2)], layers, 60)

    def test_the_told_lists_are_the_askers_own(self):
        pairs = [(1, 0)]
        told = waves_of(pairs, 2)
        told[0].append(9)
        told.clear()
        self.waves([[0], [1]], pairs, 2)


class Fit(unittest.TestCase):
    def fit(self, pieces, job=LINE):
        self.assertIs(is_fit(job, pieces), True, pieces)

    def unfit(self, pieces, job=LINE):
        self.assertIs(is_fit(job, pieces), False, pieces)

    def test_fit_ones(self):
        self.fit([[A, B, C, D, E, F]])
        self.fit([[C, B, A, F, E, D]])
        self.fit([[A, D, B, E, C, F]])
        self.fit([[A, D], [B, E], [C, F]])
        self.fit([[C, F], [B, E], [A, D]])
        self.fit([[F], [E], [D], [C], [B], [A]])
        self.fit([[E, F], [A, D, C, B]])

    def test_without_spots(self):
        empty = plain_job([3], [("round",)], "[1 0]", 0)
        self.fit([], empty)
        self.unfit([[]], empty)
        self.unfit([[A]], empty)

    def test_a_spot_that_stands_twice(self):
        self.unfit([[A, B, C, D, E, F, A]])
        self.unfit([[A, A, B, C, D, E, F]])
        self.unfit([[A, D], [B, E], [C, F], [C]])
        self.unfit([[A, D], [B, E], [C, F, F]])

    def test_a_spot_that_stands_nowhere(self):
        self.unfit([])
        self.unfit([[A, B, C, D, E]])
        self.unfit([[D], [E], [F], [A], [B]])
        self.unfit([[A, D], [B, E], [C, C]])

    def test_a_spot_that_is_not_the_jobs(self):
        for thing in odd_things() + [
            (0, (0,)), (3, (0,)), (1, (3,)), (1, (-1,)), (1, (0, 0)), (1, 0), [1, (0,)], (True, (0,)), (1, (False,)),
            (1, [0]), (1, (0,), 0), 0, 1, 10 ** 39, {"a": A}, [A], (A,), (Odd(), Odd()), (1, Odd()), (1, (Odd(),)),
        ]:
            self.unfit([[A, D], [B, E], [C, F, thing]])
            self.unfit([[A, D], [thing, B, E], [C, F]])
            self.unfit([[A, D], [B, E], [C, F], [thing]])
            self.unfit([[A, B, C, D, E, thing]])
        self.unfit([[(True, (0,)), B, C, D, E, F]])
        self.unfit([[(1, (False,)), B, C, D, E, F]])

    def test_an_empty_piece(self):
        self.unfit([[A, B, C, D, E, F], []])
        self.unfit([[], [A, B, C, D, E, F]])
        self.unfit([[A, D], [], [B, E], [C, F]])

    def test_what_is_no_list_of_lists(self):
        for thing in odd_things() + [0, (A,), {A: True}, {}, "", None]:
            self.unfit([[A, B, C, D, E, F], thing])
            self.unfit([thing, [A, B, C, D, E, F]])
        self.unfit([A, B, C, D, E, F])
        self.unfit([(A, B, C, D, E, F)])
        self.unfit(([A, B, C, D, E, F],))
        for thing in odd_things():
            self.unfit(thing)

    def test_a_spot_ahead_of_one_of_its_piece(self):
        self.unfit([[A, B, D, F, C, E]])
        self.unfit([[D, A], [B, E], [C, F]])
        self.unfit([[A, D], [B, E], [F, C]])
        deep = plain_job([1], [("round",)], "[3 0]", 4)
        one, two, three, four = deep.all_spots()
        self.fit([[three, one, two, four]], deep)
        self.unfit([[three, four, one, two]], deep)

    def test_a_ring_of_pieces(self):
        self.unfit([[A, F], [B, C, D, E]])
        self.unfit([[B, D], [A, E], [C, F]])
        long = plain_job([1], [("round",)], "[1 0]", 4)
        one, two, three, four = long.all_spots()
        self.fit([[one, two], [three, four]], long)
        self.unfit([[one, three], [two, four]], long)
        self.unfit([[one, four], [two], [three]], long)

    def test_many_pieces(self):
        dice = Dice(73)
        told = []
        for _ in range(400):
            job = thrown_job(dice, 8)
            pieces = [piece for piece in thrown_pieces(dice, job, [1]) if piece]
            stands = sorted(spot for piece in pieces for spot in piece)
            right = all(
                not set(leans_of(job, spot)) & set(piece[at:]) for piece in pieces for at, spot in enumerate(piece)
            )
            pairs = piece_pairs(job, pieces)
            fit = stands == job.all_spots() and right and not steps_lead_round(pairs, len(pieces))
            self.assertIs(is_fit(job, pieces), fit)
            told.append(fit)
        self.assertTrue(20 < told.count(True) < 380)

    def test_what_is_handed_in_stays(self):
        pieces = [[A, D], [B, E], [F, C]]
        self.unfit(pieces)
        self.assertTrue(is_same(pieces, [[A, D], [B, E], [F, C]]))
        pieces = [[A, D], [B, E], [C, F]]
        self.fit(pieces)
        self.assertTrue(is_same(pieces, [[A, D], [B, E], [C, F]]))


if __name__ == "__main__":
    unittest.main()

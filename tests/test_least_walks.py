"""Stage 9: bounds of walks, and least walks."""

import itertools
import unittest

from helper import Dice, Odd, is_same, odd_things, refused
from slanttiles.errors import NoPaper, TooGreat
from slanttiles.least_walks import chain_bound, least_walk, work_bound
from slanttiles.piece_pairs import ring_in
from slanttiles.walks import rows_end


def all_rows(many, hands):
    """All rows of so many pieces, hands that do the same being tried once."""
    for order in itertools.permutations(range(many)):
        for cuts in itertools.combinations_with_replacement(range(many + 1), hands - 1):
            ends = (0,) + cuts + (many,)
            rows = [list(order[begin:end]) for begin, end in zip(ends, ends[1:])]
            if rows == sorted(rows):
                yield rows


def soonest_end(lasts, pairs, hands):
    """The least end of all rows."""
    ends = []
    for rows in all_rows(len(lasts), hands):
        try:
            ends.append(rows_end(lasts, pairs, rows))
        except NoPaper:
            continue
    return min(ends)


def thrown_pairs(dice, many):
    """Pairs without a ring, some twice, in any order and of any numbers."""
    order = dice.mixed(range(many))
    pairs = []
    for one, other in itertools.combinations(range(many), 2):
        pairs += [(order[other], order[one])] * dice.one_of([0, 0, 1, 2])
    return dice.mixed(pairs)


class Bounds(unittest.TestCase):
    def chain(self, bound, lasts, pairs):
        given = ([*lasts], [*pairs])
        self.assertTrue(is_same(chain_bound(lasts, pairs), bound), chain_bound(lasts, pairs))
        self.assertTrue(is_same((lasts, pairs), given))

    def test_chain_bound(self):
        self.chain(0, [], [])
        self.chain(5, [5], [])
        self.chain(5, [3, 5, 2], [])
        self.chain(8, [3, 5, 2], [(1, 0)])
        self.chain(8, [3, 5, 2], [(0, 1)])
        self.chain(10, [3, 5, 2], [(1, 0), (2, 1)])
        self.chain(10, [3, 5, 2], [(2, 1), (1, 0), (2, 0), (2, 1)])
        self.chain(7, [3, 5, 2, 4], [(3, 0), (2, 1)])
        # The longest chain by count isn't the greatest one.
        self.chain(120, [1, 1, 1, 120], [(1, 0), (2, 1)])
        self.chain(121, [1, 1, 1, 120], [(1, 0), (2, 1), (3, 0)])
        self.chain(9, [2, 3, 1, 4], [(3, 0), (3, 1), (3, 2), (1, 0)])

    def test_chain_bound_refused(self):
        for lasts, pairs in [([1], [(0, 0)]), ([2, 2], [(0, 1), (1, 0)]), ([1, 2, 3], [(0, 1), (2, 2)]),
                             ([1, 2, 3, 4], [(1, 0), (2, 1), (3, 2), (1, 3)])]:
            refused(self, NoPaper, "ring", chain_bound, lasts, pairs)

    def test_many_pieces_and_pairs(self):
        pairs = [(p, q) for p in range(120) for q in range(p)]
        self.chain(sum(range(1, 121)), list(range(1, 121)), pairs[::-1] + pairs)
        self.chain(240, [2] * 120, pairs)
        refused(self, NoPaper, "ring", chain_bound, [2] * 120, pairs + [(0, 119)])

    def test_a_chain_of_many(self):
        self.chain(3000, [1] * 3000, [(p, p - 1) for p in range(1, 3000)])
        self.chain(3000, [1] * 3000, [(p - 1, p) for p in range(1, 3000)])

    def test_work_bound(self):
        for bound, lasts, hands in [
            (0, [], 1), (0, [], 3), (5, [5], 1), (3, [5], 2), (2, [5], 3), (1, [5], 5), (1, [5], 6), (1, [5], 10 ** 30),
            (10, [3, 5, 2], 1), (5, [3, 5, 2], 2), (4, [3, 5, 2], 3), (3, [3, 5, 2], 4), (2, [3, 5, 2], 5), (4, [3, 5], 2),
            (14400, [120] * 120, 1), (4800, [120] * 120, 3),
        ]:
            given = [*lasts]
            self.assertTrue(is_same(work_bound(lasts, hands), bound), given)
            self.assertEqual(lasts, given)

    def test_no_rows_end_sooner(self):
        dice = Dice(191)
        for _ in range(60):
            lasts = [1 + dice.below(9) for _ in range(dice.below(5))]
            pairs = thrown_pairs(dice, len(lasts))
            for hands in [1, 2, 3]:
                end = soonest_end(lasts, pairs, hands)
                self.assertGreaterEqual(end, max(chain_bound(lasts, pairs), work_bound(lasts, hands)))
            # With a hand for each piece the chains alone count, with one hand the work alone.
            self.assertEqual(rows_end(lasts, pairs, [[n] for n in range(len(lasts))] or [[]]), chain_bound(lasts, pairs))
            self.assertEqual(soonest_end(lasts, pairs, 1), work_bound(lasts, 1))


class LeastWalks(unittest.TestCase):
    def walk(self, lasts, pairs, hands):
        """Check what is told but its being the least; tell the end."""
        given = ([*lasts], [*pairs])
        told = least_walk(lasts, pairs, hands)
        self.assertTrue(is_same((lasts, pairs), given))
        self.assertIs(type(told), tuple)
        self.assertEqual(len(told), 2)
        end, rows = told
        self.assertIs(type(end), int)
        self.assertTrue(is_same(sorted(sum(rows, [])), list(range(len(lasts)))))
        self.assertEqual((type(rows), len(rows), [type(row) for row in rows]), (list, hands, [list] * hands))
        self.assertEqual(rows_end(lasts, pairs, rows), end)
        return end

    def test_by_hand(self):
        for end, lasts, pairs, hands in [
            (0, [], [], 1), (0, [], [], 3), (4, [4], [], 1), (4, [4], [], 2), (9, [4, 5], [], 1), (5, [4, 5], [], 2),
            (9, [4, 5], [(0, 1)], 2), (9, [4, 5], [(1, 0), (1, 0)], 3),
            # Not 3 and 2 and 2 beside 3 and 2, but both 3 in one hand.
            (6, [3, 3, 2, 2, 2], [], 2), (5, [3, 3, 2, 2, 2], [], 3), (7, [3, 3, 2, 2, 2], [(2, 0), (3, 2)], 3),
            # It is better to leave a hand idle for a while: 0 then 3 of 8 first.
            (9, [1, 2, 2, 8], [(3, 0)], 2), (21, [1, 2, 3, 4, 5, 6], [], 1), (7, [1, 2, 3, 4, 5, 6], [], 3),
            (240, [120] * 6, [], 3), (720, [120] * 6, [(n, n - 1) for n in range(1, 6)], 3),
        ]:
            self.assertEqual(self.walk(lasts, pairs, hands), end, (lasts, pairs, hands))

    def test_against_all_rows(self):
        dice = Dice(193)
        for many in range(6):
            for _ in range([1, 2, 4, 8, 10, 4][many]):
                lasts = [dice.one_of([1, 2, 3, 5, 8, 120]) for _ in range(many)]
                pairs = thrown_pairs(dice, many)
                for hands in [1, 2, 3]:
                    self.assertEqual(self.walk(lasts, pairs, hands), soonest_end(lasts, pairs, hands), (lasts, pairs, hands))

    def test_six_pieces_against_all_rows(self):
        dice = Dice(197)
        for hands, pairs in [(2, []), (3, []), (2, thrown_pairs(dice, 6)), (3, [(5, 0), (4, 0), (3, 1)])]:
            lasts = [1 + dice.below(12) for _ in range(6)]
            self.assertEqual(self.walk(lasts, pairs, hands), soonest_end(lasts, pairs, hands), (lasts, pairs, hands))

    def test_too_many_pieces(self):
        for many in [7, 8, 20, 120]:
            for hands in [1, 3, 0, 4, None, Odd()]:
                refused(self, TooGreat, many, least_walk, [1] * many, [], hands)
                refused(self, TooGreat, many, least_walk, [1] * many, [(0, 0)], hands)

    def test_hands_that_are_refused(self):
        for hands in [0, 4, 5, -1, -3, 10 ** 12, True, False, None, "1", "", [], [1], (1,), {}]:
            refused(self, TooGreat, hands, least_walk, [1, 2], [], hands)
            refused(self, TooGreat, hands, least_walk, [], [], hands)
            refused(self, TooGreat, hands, least_walk, [1, 2], [(0, 1), (1, 0)], hands)
        for thing in odd_things():
            with self.assertRaises(TooGreat) as caught:
                least_walk([1], [], thing)
            self.assertIs(caught.exception.at, thing)

    def test_rings(self):
        for lasts, pairs in [([1], [(0, 0)]), ([2, 2], [(0, 1), (1, 0)]), ([1] * 6, [(n, (n + 1) % 6) for n in range(6)])]:
            for hands in [1, 2, 3]:
                refused(self, NoPaper, "ring", least_walk, lasts, pairs, hands)

    def test_which_are_rings(self):
        dice = Dice(199)
        for _ in range(60):
            many = 1 + dice.below(4)
            pairs = [(dice.below(many), dice.below(many)) for _ in range(dice.below(4))]
            if ring_in(pairs, many) is None:
                self.walk([1] * many, pairs, 2)
            else:
                refused(self, NoPaper, "ring", least_walk, [1] * many, pairs, 2)

    def test_what_is_told_is_the_askers_own(self):
        least_walk([1, 2], [], 2)[1].clear()
        self.assertEqual(self.walk([1, 2], [], 2), 2)


if __name__ == "__main__":
    unittest.main()

"""Stage 6: what comes before what."""

import itertools
import unittest

from helper import Dice, plain_job, thrown_job, thrown_paper
from slanttiles.befores import Befores
from slanttiles.papers import Paper

BIG = plain_job([5, 8], [("round",), ("round",)], "7", 3)


def paper_of(hands, waits, lengths=None):
    """A paper of a job without takes, its pieces of the told lengths, else of one spot each."""
    spots = BIG.all_spots()
    pieces, begin = [], 0
    for number in range(sum(len(hand) for hand in hands)):
        end = begin + (lengths[number] if lengths else 1)
        pieces.append(spots[begin:end])
        begin = end
    return Paper(BIG, pieces, hands, waits, {spot: 0 for spot in spots}, [])


def steps_of(paper):
    """The pairs of pieces of which the first is before the second by one step."""
    steps = {(q, p) for p, q in paper.waits}
    for hand in paper.hands:
        for at in range(1, len(hand)):
            steps.add((hand[at - 1], hand[at]))
    return steps


def leads(paper):
    """The pairs of pieces of which the first is before the second, by all ways."""
    pairs = steps_of(paper)
    for middle, p, q in itertools.product(range(len(paper.pieces)), repeat=3):
        if (p, middle) in pairs and (middle, q) in pairs:
            pairs.add((p, q))
    return pairs


class PieceBefore(unittest.TestCase):
    def befores(self, pairs, hands, waits):
        """Check which pieces are before which, and the ring."""
        paper = paper_of(hands, waits)
        befores = Befores(paper)
        for one, other in itertools.product(range(len(paper.pieces)), repeat=2):
            self.assertIs(befores.piece_before(one, other), (one, other) in pairs, (one, other))
        self.check_ring(paper, befores)
        return befores.ring()

    def check_ring(self, paper, befores):
        """Check that a ring is told where there is one, and that what is told is one."""
        ring = befores.ring()
        goes_round = any(befores.piece_before(piece, piece) for piece in range(len(paper.pieces)))
        self.assertEqual(ring is not None, goes_round)
        if ring is not None:
            self.assertIs(type(ring), list)
            self.assertTrue(ring)
            self.assertEqual(len(ring), len(set(ring)))
            for piece, behind in zip(ring, ring[1:] + ring[:1]):
                self.assertIs(type(piece), int)
                self.assertIn((piece, behind), steps_of(paper))

    def test_no_pieces(self):
        self.assertIsNone(self.befores([], [[]], []))
        self.assertIsNone(self.befores([], [[], [], [], []], []))

    def test_hands_alone(self):
        self.assertIsNone(self.befores([], [[0], [1]], []))
        self.assertIsNone(self.befores([(0, 1)], [[0, 1]], []))
        self.assertIsNone(self.befores([(1, 0)], [[1, 0]], []))
        self.assertIsNone(self.befores([(0, 3), (0, 1), (3, 1), (2, 4)], [[0, 3, 1], [], [2, 4]], []))

    def test_waits_alone(self):
        self.assertIsNone(self.befores([(1, 0)], [[0], [1]], [(0, 1)]))
        self.assertIsNone(self.befores([(0, 1)], [[0], [1]], [(1, 0), (1, 0)]))
        waits = [(1, 0), (2, 1), (3, 0)]
        self.assertIsNone(self.befores([(0, 1), (1, 2), (0, 2), (0, 3)], [[0], [1], [2], [3]], waits))

    def test_hands_and_waits(self):
        # 0 then 1; 2 waits for 0, 1 waits for 3, which stands behind 2.
        pairs = [(0, 1), (2, 3), (0, 2), (0, 3), (3, 1), (2, 1)]
        self.assertIsNone(self.befores(pairs, [[0, 1], [2, 3]], [(2, 0), (1, 3)]))

    def test_a_piece_that_waits_for_itself(self):
        self.assertEqual(self.befores([(0, 0)], [[0]], [(0, 0)]), [0])
        self.assertEqual(self.befores([(0, 1), (1, 1), (1, 2), (0, 2)], [[0, 1, 2]], [(1, 1)]), [1])

    def test_a_ring_by_waits(self):
        all_pairs = list(itertools.product(range(3), repeat=2))
        self.assertEqual(sorted(self.befores(all_pairs[:2] + all_pairs[3:5], [[0], [1]], [(0, 1), (1, 0)])), [0, 1])
        ring = self.befores(all_pairs, [[0], [1], [2]], [(1, 0), (2, 1), (0, 2)])
        self.assertIn(ring, [[0, 1, 2], [1, 2, 0], [2, 0, 1]])

    def test_a_ring_by_a_wait_and_a_hands_order(self):
        self.assertIn(self.befores([(0, 0), (0, 1), (1, 0), (1, 1)], [[0, 1]], [(0, 1)]), [[0, 1], [1, 0]])
        # 0 then 1 and 2 then 3: 0 waits for 3, and 2 for 1.
        ring = self.befores(list(itertools.product(range(4), repeat=2)), [[0, 1], [2, 3]], [(0, 3), (2, 1)])
        self.assertIn(ring, [[0, 1, 2, 3], [1, 2, 3, 0], [2, 3, 0, 1], [3, 0, 1, 2]])

    def test_many_steps(self):
        befores = Befores(paper_of([list(range(0, 120, 2)), list(range(1, 120, 2))], [(1, 118)]))
        for one, other in itertools.product(range(120), repeat=2):
            together = one % 2 == other % 2
            self.assertIs(befores.piece_before(one, other), one < other if together else one % 2 == 0)
        self.assertIsNone(befores.ring())

    def test_many_pieces_and_waits(self):
        # Forty rows of three: each piece waits for all three of the row ahead.
        hands = [list(range(hand, 120, 3)) for hand in range(3)]
        waits = [(p, q) for p in range(3, 120) for q in range(120) if p // 3 == q // 3 + 1]
        befores = Befores(paper_of(hands, waits))
        for one, other in itertools.product(range(120), repeat=2):
            self.assertIs(befores.piece_before(one, other), one // 3 < other // 3)
        self.assertIsNone(befores.ring())
        paper = paper_of(hands, waits + [(0, 119)])
        befores = Befores(paper)
        self.check_ring(paper, befores)
        self.assertTrue(all(befores.piece_before(p, q) for p in range(3) for q in [0, 119]))

    def test_thrown_papers(self):
        dice = Dice(83)
        rings = 0
        for _ in range(200):
            many = dice.below(9)
            hands = [[] for _ in range(1 + dice.below(4))]
            for number in dice.mixed(range(many)):
                dice.one_of(hands).append(number)
            waits = [(dice.below(many), dice.below(many)) for _ in range(dice.below(6))] if many else []
            paper = paper_of(hands, waits)
            ring = self.befores(leads(paper), hands, waits)
            rings += ring is not None
        self.assertTrue(20 < rings < 180)

    def test_the_told_ring_is_the_askers_own(self):
        befores = Befores(paper_of([[0, 1]], [(0, 1)]))
        befores.ring().clear()
        self.assertEqual(sorted(befores.ring()), [0, 1])

    def test_the_paper_stays(self):
        paper = paper_of([[0, 1], [2]], [(2, 1), (0, 0)])
        befores = Befores(paper)
        befores.ring()
        befores.piece_before(0, 2)
        self.assertEqual((paper.hands, paper.waits), ([[0, 1], [2]], [(2, 1), (0, 0)]))
        self.assertEqual([len(piece) for piece in paper.pieces], [1, 1, 1])


class SpotBefore(unittest.TestCase):
    def befores(self, befores, one, others):
        """Check before which of all spots of the paper's pieces one spot is."""
        for spot in self.spots:
            self.assertIs(befores.spot_before(one, spot), spot in others, (one, spot))

    def setUp(self):
        self.spots = BIG.all_spots()[:6]

    def test_one_piece(self):
        a, b, c, d, e, f = self.spots
        befores = Befores(Paper(BIG, [[c, a, f, b, e, d]], [[0]], [], {s: 0 for s in BIG.all_spots()}, []))
        row = [c, a, f, b, e, d]
        for place, spot in enumerate(row):
            self.befores(befores, spot, row[place + 1:])

    def test_one_piece_in_a_ring(self):
        self.spots = BIG.all_spots()[:3]
        a, b, c = self.spots
        befores = Befores(Paper(BIG, [[a, b, c]], [[0]], [(0, 0)], {s: 0 for s in BIG.all_spots()}, []))
        self.befores(befores, a, [b, c])
        self.befores(befores, b, [c])
        self.befores(befores, c, [])

    def test_two_pieces(self):
        a, b, c, d, e, f = self.spots
        befores = Befores(paper_of([[0, 2], [1]], [(2, 1)], [2, 2, 2]))
        self.befores(befores, a, [b, e, f])
        self.befores(befores, b, [e, f])
        self.befores(befores, c, [d, e, f])
        self.befores(befores, d, [e, f])
        self.befores(befores, e, [f])
        self.befores(befores, f, [])

    def test_pieces_by_many_steps(self):
        a, b, c, d, e, f = self.spots
        befores = Befores(paper_of([[3, 1], [2, 0]], [(2, 1)], [1, 2, 1, 2]))
        # The pieces go 3, 1, 2, 0: e f, b c, d, a.
        row = [e, f, b, c, d, a]
        for place, spot in enumerate(row):
            self.befores(befores, spot, row[place + 1:])

    def test_pieces_in_a_ring(self):
        a, b, c, d, e, f = self.spots
        befores = Befores(paper_of([[0], [1]], [(0, 1), (1, 0)], [3, 3]))
        self.befores(befores, a, [b, c, d, e, f])
        self.befores(befores, f, [a, b, c])

    def test_thrown_papers(self):
        dice = Dice(89)
        for _ in range(40):
            paper = thrown_paper(dice, thrown_job(dice, 14), 9)
            pairs = leads(paper)
            befores = Befores(paper)
            stands = [(p, at, spot) for p, piece in enumerate(paper.pieces) for at, spot in enumerate(piece)]
            for (p, at, one), (q, behind, other) in itertools.product(stands, repeat=2):
                before = at < behind if p == q else (p, q) in pairs
                self.assertIs(befores.spot_before(one, other), before)


if __name__ == "__main__":
    unittest.main()

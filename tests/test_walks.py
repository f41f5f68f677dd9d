"""Stage 9: walks."""

import unittest

from helper import Dice, Odd, is_same, odd_things, own_slots, paper_values, plain_job, refused, thrown_job, thrown_paper
from slanttiles.befores import Befores
from slanttiles.errors import NoPaper
from slanttiles.papers import Paper
from slanttiles.walks import rows_end, walk_end, walk_idle, walk_times

BIG = plain_job([5, 8], [("round",), ("round",)], "7", 3)
EMPTY = plain_job([2], [("round",)], "[1 0]", 0)


def paper_of(lasts, hands, waits, slots=None):
    """A paper of a job without takes, its pieces of the told lengths."""
    spots = BIG.all_spots()
    pieces, begin = [], 0
    for last in lasts:
        pieces.append(spots[begin:begin + last])
        begin += last
    return Paper(BIG, pieces, hands, waits, slots or {spot: 0 for spot in spots}, [])


def times_by_ticks(paper):
    """The times of the pieces, tick by tick; None where the walk is stuck."""
    lasts = [len(piece) for piece in paper.pieces]
    begins, ends = {}, {}
    tick = 0
    while len(ends) < len(lasts):
        for piece in begins:
            if begins[piece] + lasts[piece] == tick:
                ends[piece] = tick
        for hand in paper.hands:
            for at, piece in enumerate(hand):
                behind = hand[:at] + [q for p, q in paper.waits if p == piece]
                if piece not in begins and all(other in ends for other in behind):
                    begins[piece] = tick
        tick += 1
        if tick > sum(lasts) + 2:
            return None
    return [(begins[piece], ends[piece]) for piece in range(len(lasts))]


class Walks(unittest.TestCase):
    def walk(self, times, idle, paper):
        values = paper_values(paper)
        end = max([end for begin, end in times], default=0)
        self.assertTrue(is_same(walk_times(paper), times), walk_times(paper))
        self.assertTrue(is_same(walk_idle(paper), idle), walk_idle(paper))
        self.assertTrue(is_same(walk_end(paper), end), walk_end(paper))
        lasts = [len(piece) for piece in paper.pieces]
        self.assertTrue(is_same(rows_end(lasts, paper.waits, paper.hands), end))
        self.assertTrue(is_same(paper_values(paper), values))

    def test_one_hand(self):
        self.walk([(0, 3), (3, 5), (5, 6)], [0], paper_of([3, 2, 1], [[0, 1, 2]], []))
        self.walk([(3, 6), (1, 3), (0, 1)], [0], paper_of([3, 2, 1], [[2, 1, 0]], []))
        self.walk([(0, 3), (3, 5), (5, 6)], [0], paper_of([3, 2, 1], [[0, 1, 2]], [(1, 0), (2, 0)]))

    def test_two_hands(self):
        self.walk([(0, 3), (0, 2), (3, 4)], [0, 0], paper_of([3, 2, 1], [[0, 2], [1]], []))
        # A wait that delays by one tick, and one that doesn't.
        self.walk([(0, 3), (0, 2), (3, 4)], [0, 1], paper_of([3, 2, 1], [[0], [1, 2]], [(2, 0)]))
        self.walk([(0, 2), (0, 3), (3, 4)], [0, 0], paper_of([2, 3, 1], [[0], [1, 2]], [(2, 0)]))
        self.walk([(0, 3), (0, 3), (3, 4)], [0, 0], paper_of([3, 3, 1], [[0], [1, 2]], [(2, 0)]))
        # The first piece of a hand waits too.
        self.walk([(0, 4), (4, 6), (6, 7)], [0, 4], paper_of([4, 2, 1], [[0], [1, 2]], [(1, 0)]))

    def test_three_and_four_hands(self):
        lasts = [4, 2, 3, 1, 5, 2]
        waits = [(3, 0), (4, 1), (5, 2), (5, 3), (2, 1)]
        # 0: 0-4, 1: 0-2, 2 behind 1: 2-5, 3 behind 0: 4-5, 4 behind 1: 2-7, 5 behind 2 and 3.
        self.walk([(0, 4), (0, 2), (2, 5), (4, 5), (2, 7), (5, 7)], [0, 0, 2], paper_of(lasts, [[0, 3, 5], [1, 4], [2]], waits))
        times = [(0, 4), (0, 2), (2, 5), (4, 5), (5, 10), (5, 7)]
        self.walk(times, [0, 0, 2, 5], paper_of(lasts, [[0, 3], [1], [2, 4], [5]], waits))

    def test_hands_without_pieces(self):
        self.walk([(0, 3), (3, 4)], [0, 0, 0], paper_of([3, 1], [[], [0, 1], []], []))
        self.walk([(0, 3), (3, 4)], [0, 0, 3, 0], paper_of([3, 1], [[0], [], [1], []], [(1, 0)]))

    def test_without_pieces(self):
        self.walk([], [0], Paper(EMPTY, [], [[]], [], {}, []))
        self.walk([], [0, 0, 0], Paper(EMPTY, [], [[], [], []], [], {}, []))
        self.walk([], [0], Paper(BIG, [], [[]], [], own_slots(BIG), []))

    def test_waits_that_stand_twice(self):
        paper = paper_of([3, 2, 1], [[0], [1, 2]], [(2, 0), (2, 0), (1, 0), (1, 0), (1, 0)])
        self.walk([(0, 3), (3, 5), (5, 6)], [0, 3], paper)

    def test_the_idle_time_is_counted_to_the_last_piece_alone(self):
        paper = paper_of([1, 9, 1, 2], [[0, 2], [1], [3]], [(2, 1), (3, 0)])
        self.walk([(0, 1), (0, 9), (9, 10), (1, 3)], [8, 0, 1], paper)

    def test_spots_that_stand_twice_or_not_at_all(self):
        job = plain_job([2], [("round",)], "[1 0]", 2)
        a, b, c, d = job.all_spots()
        slots = {spot: 0 for spot in [a, b, c, d]}
        paper = Paper(job, [[a, a, a], [d, a], [b]], [[0, 1], [2]], [(2, 0)], slots, [])
        self.walk([(0, 3), (3, 5), (3, 4)], [0, 3], paper)
        self.walk([(0, 2)], [0], Paper(job, [[c, a]], [[0]], [], slots, [a]))

    def ring(self, paper):
        for call in [walk_times, walk_end, walk_idle]:
            refused(self, NoPaper, "ring", call, paper)
        lasts = [len(piece) for piece in paper.pieces]
        refused(self, NoPaper, "ring", rows_end, lasts, paper.waits, paper.hands)

    def test_rings(self):
        self.ring(paper_of([1], [[0]], [(0, 0)]))
        self.ring(paper_of([2, 2], [[0], [1]], [(0, 1), (1, 0)]))
        self.ring(paper_of([2, 2], [[0, 1]], [(0, 1)]))
        self.ring(paper_of([1, 2, 3, 4], [[0, 1], [2, 3]], [(0, 3), (2, 1)]))
        self.ring(paper_of([1, 2, 3], [[0], [1], [2]], [(1, 1)]))
        # A ring goes ahead of what else is wrong with a paper.
        job = plain_job([2], [("round",)], "[1 0]", 2)
        a, b, c, d = job.all_spots()
        self.ring(Paper(job, [[a, a], [c]], [[0], [1]], [(0, 1), (1, 0)], {a: 0, b: 0, c: 0, d: 0}, []))

    def test_what_is_told_is_the_askers_own(self):
        paper = paper_of([3, 2, 1], [[0], [1, 2]], [(2, 0)])
        walk_times(paper).clear()
        walk_idle(paper).clear()
        self.walk([(0, 3), (0, 2), (3, 4)], [0, 1], paper)

    def test_thrown_papers(self):
        dice = Dice(181)
        rings = 0
        for _ in range(200):
            paper = thrown_paper(dice, thrown_job(dice, 24), 3)
            times = times_by_ticks(paper)
            self.assertEqual(times is None, Befores(paper).ring() is not None)
            if times is None:
                rings += 1
                self.ring(paper)
            else:
                ends = [max([times[piece][1] for piece in hand], default=0) for hand in paper.hands]
                work = [sum(len(paper.pieces[piece]) for piece in hand) for hand in paper.hands]
                self.walk(times, [end - one for end, one in zip(ends, work)], paper)
        self.assertTrue(20 < rings < 180, rings)

    def test_120_pieces_and_many_waits(self):
        # Each piece waits for the three or four ahead of it, so that ways through them are without number.
        waits = [(p, q) for p in range(120) for q in range(max(0, p - 3), p)]
        waits += [(p, p - 4) for p in range(4, 47)]
        self.assertGreater(len(waits), 390)
        hands = [list(range(hand, 120, 4)) for hand in range(4)]
        paper = paper_of([1] * 120, hands, waits)
        self.walk([(at, at + 1) for at in range(120)], [87, 88, 89, 90], paper)
        self.ring(paper_of([1] * 120, hands, waits[:399] + [(0, 119)]))


class RowsEnd(unittest.TestCase):
    def test_by_hand(self):
        for end, lasts, pairs, rows in [
            (0, [], [], [[]]), (0, [], [], [[], [], [], [], [], []]), (7, [7], [], [[0]]), (7, [7], [], [[], [0]]),
            (120, [120, 5], [], [[0], [1]]), (125, [120, 5], [], [[1, 0]]), (125, [120, 5], [(0, 1)], [[0], [1]]),
            (125, [120, 5], [(1, 0), (1, 0)], [[0], [1]]),
            (8, [2, 3, 3], [(2, 1), (1, 0)], [[0], [1], [2]]), (6, [2, 3, 3], [(2, 1)], [[0], [1], [2]]),
            (21, [1, 2, 3, 4, 5, 6], [], [[5, 4, 3, 2, 1, 0]]), (6, [1, 2, 3, 4, 5, 6], [], [[0], [1], [2], [3], [4], [5]]),
        ]:
            given = ([*lasts], [*pairs], [[*row] for row in rows])
            self.assertTrue(is_same(rows_end(lasts, pairs, rows), end), given)
            self.assertTrue(is_same((lasts, pairs, rows), given))

    def test_more_than_four_rows(self):
        self.assertEqual(rows_end([3] * 9, [], [[n] for n in range(9)]), 3)
        self.assertEqual(rows_end([1] * 9, [(8, n) for n in range(8)], [[n] for n in range(9)] + [[]] * 20), 2)

    def test_rows_that_are_refused(self):
        for rows in odd_things() + [
            None, 0, "01", ([0], [1]), {0: [0], 1: [1]}, [(0, 1)], [0, 1], [[0], 1], [None], [[0, 1], None], ["01"],
            [[0]], [[1]], [[0, 0]], [[0, 1], [1]], [[0, 1, 1]], [[0, 1, 2]], [[0, 1], [-1]], [[-2, -1]], [[0, 10 ** 12]],
            [[False, True]], [[0, True]], [[False, 1]], [[None, 0]], [["0", "1"]], [[0, 1], ["0"]], [[[0], [1]]],
            [[0, Odd()]], [[Odd(), Odd()]], [Odd()], [[(0,), (1,)]], [[]], [[], []],
        ]:
            refused(self, NoPaper, "rows", rows_end, [1, 2], [], rows)
            # The rows go ahead of a ring.
            refused(self, NoPaper, "rows", rows_end, [1, 2], [(0, 1), (1, 0)], rows)
        # Without pieces there is one list at least, too, and nothing in it.
        for rows in [[], None, [[0]], [[True]], [[None]], (), ((),), {}, [()]]:
            refused(self, NoPaper, "rows", rows_end, [], [], rows)
        refused(self, NoPaper, "rows", rows_end, [1], [], [[False]])
        refused(self, NoPaper, "rows", rows_end, [1], [], [])

    def test_rings(self):
        for lasts, pairs, rows in [
            ([1], [(0, 0)], [[0]]), ([1, 1], [(1, 1)], [[0], [1]]), ([1, 1], [(0, 1), (1, 0)], [[0], [1]]),
            ([1, 1], [(0, 1)], [[0, 1]]), ([1, 1], [(1, 0)], [[1, 0]]), ([1] * 4, [(0, 3), (2, 1)], [[0, 1], [2, 3]]),
            ([1] * 3, [(0, 1), (1, 2), (2, 0)], [[0], [1], [2]]), ([1] * 3, [(0, 2)], [[0, 1, 2], []]),
        ]:
            refused(self, NoPaper, "ring", rows_end, lasts, pairs, rows)


if __name__ == "__main__":
    unittest.main()

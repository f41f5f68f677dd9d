"""Stage 7: shows of clashes."""

import unittest

from helper import Dice, is_same, own_slots, paper_values, plain_job, thrown_job, thrown_paper
from slanttiles.clashes import find_clash
from slanttiles.papers import Paper
from slanttiles.runs import Run
from slanttiles.shows import show_clash

APART = plain_job([2], [("round",)], "[1 0]", 3)
A0, A1, B0, B1, C0, C1 = APART.all_spots()
LINE = plain_job([3], [("fixed", 5)], "([1 -1] + [1 0])", 2)
L1, L2, L3, M1, M2, M3 = LINE.all_spots()
EMPTY = plain_job([2], [("round",)], "[1 0]", 0)


class Shows(unittest.TestCase):
    def shows(self, clash, *given):
        """Check that a paper has this clash, and that what is told shows it; tell the spots done."""
        paper = Paper(*given)
        self.assertEqual(find_clash(paper), clash)
        return self.check_show(paper)

    def check_show(self, paper):
        """Check that what is told shows the clash, whichever it is."""
        values = paper_values(paper)
        steps = show_clash(paper)
        self.assertIs(type(steps), list)
        self.assertTrue(all(type(hand) is int for hand in steps))
        run = Run(paper)
        wrong = 0
        for hand in steps:
            self.assertIn(hand, run.ready())
            wrong = len(run.wrong_reads())
            run.step(hand)
        self.check_end(paper, find_clash(paper), run, run.wrong_reads()[wrong:])
        self.assertTrue(is_same(paper_values(paper), values))
        return run.done_spots()

    def check_end(self, paper, clash, run, last_wrong):
        """Check what the run shows at its end, and by its last step."""
        done = run.done_spots()
        if clash is None or clash[0] in ("twice", "left"):
            self.assertEqual(done, [])
        elif clash[0] == "ring":
            self.assertEqual((run.ready(), run.is_over()), ([], False))
        elif clash[0] == "gone":
            self.assertTrue(run.is_over())
            self.assertIsNone(run.told(clash[1]))
        else:
            self.assertEqual(done[-1], clash[1])
            self.assertIn(clash[1:3], [read[:2] for read in last_wrong])
            if clash[0] == "late":
                places = [done.index(clash[2]), done.index(clash[3]), done.index(clash[1])]
                self.assertEqual(places, sorted(places))

    def test_no_clash(self):
        self.shows(None, EMPTY, [], [[]], [], {}, [])
        self.shows(None, APART, [APART.all_spots()], [[0]], [], own_slots(APART), APART.all_spots())

    def test_twice_and_left(self):
        slots = {spot: 0 for spot in APART.all_spots()}
        self.shows(("twice", A0), APART, [[C0, A0, B0, A0]], [[0]], [], slots, [])
        self.shows(("twice", B1), APART, [[B1], [B1]], [[0], [1]], [(0, 1), (1, 0)], slots, [B1])
        self.shows(("left", A0), APART, [], [[], []], [], slots, [A0])
        self.shows(("left", A1), APART, [[C0, B0, A0]], [[0]], [(0, 0)], slots, [])

    def test_ring(self):
        spots, slots = APART.all_spots(), own_slots(APART)
        self.assertEqual(self.shows(("ring", [0]), APART, [spots], [[0]], [(0, 0)], slots, []), [])
        # All that isn't held up by the ring is done.
        pieces = [[A0], [A1], [B0], [B1], [C0, C1]]
        done = self.shows(("ring", [3]), APART, pieces, [[0, 2], [1, 3], [4]], [(3, 3), (4, 3)], slots, [])
        self.assertEqual(sorted(done), [A0, A1, B0])
        for hands, waits in [([[0], [1]], [(0, 1), (1, 0)]), ([[0, 1]], [(0, 1)]), ([[1, 0], []], [(1, 0)])]:
            paper = Paper(APART, [spots[:4], spots[4:]], hands, waits, slots, [])
            self.assertEqual(find_clash(paper)[0], "ring")
            self.assertEqual(self.check_show(paper), [])

    def test_a_ring_beside_which_much_is_done(self):
        pieces = [[A0], [B0, C0], [A1, B1], [C1]]
        paper = Paper(APART, pieces, [[0, 1], [2], [3]], [(1, 3), (3, 1)], own_slots(APART), [])
        self.assertEqual(find_clash(paper)[0], "ring")
        self.assertEqual(sorted(self.check_show(paper)), [A0, A1, B1])

    def test_early(self):
        slots = own_slots(APART)
        pieces = [[A0, A1, B1, C1], [B0, C0]]
        self.assertEqual(self.shows(("early", B0, A0), APART, pieces, [[0], [1]], [], slots, []), [B0])
        self.assertEqual(self.shows(("early", B0, A0), APART, pieces, [[0], [1]], [(0, 1)], slots, []), [B0])
        self.shows(("early", B0, A0), APART, pieces, [[1, 0]], [], slots, [])
        self.shows(("early", C1, B1), APART, [[A0, A1, B0, C0, C1, B1]], [[0]], [], slots, [])
        # Another spot lies in the slot by then, or nothing does.
        same = {spot: 0 for spot in APART.all_spots()}
        self.shows(("early", C1, B1), APART, [[A0, A1, B0, C0, C1, B1]], [[0]], [], same, [])
        self.shows(("early", B0, A0), APART, pieces, [[0], [1]], [], same, [])

    def test_early_that_wants_steps_of_several_hands(self):
        slots = own_slots(APART)
        pieces = [[A0], [A1], [B1], [B0, C0, C1]]
        # B0 waits for B1, that for A1; no one waits for A0.
        done = self.shows(("early", B0, A0), APART, pieces, [[0], [1], [2], [3]], [(2, 1), (3, 2)], slots, [])
        self.assertEqual(done, [A1, B1, B0])
        # M3 reads L2 too early, and M1, M2 stand ahead of it in its hand, each waiting for another one.
        pieces = [[L1], [L3], [L2], [M1], [M3], [M2]]
        waits = [(3, 0), (4, 1), (5, 0), (5, 2)]
        self.shows(("early", M3, L2), LINE, pieces, [[0], [1], [2], [3, 4, 5]], waits, own_slots(LINE), [])

    def test_late(self):
        slots = {**own_slots(APART), A1: 0}
        row = [A0, A1, B1, B0, C0, C1]
        self.shows(("late", B0, A0, A1), APART, [row], [[0]], [], slots, [])
        # The document's own example.
        job = plain_job([2], [("round",)], "[1 0]", 2)
        a, b, c, d = job.all_spots()
        done = self.shows(("late", c, a, b), job, [[a, c], [b, d]], [[0], [1]], [], {a: 0, b: 0, c: 0, d: 0}, [])
        self.assertEqual(done, [a, b, c])

    def test_late_with_the_spot_over_ahead_in_the_readers_hand(self):
        # A1 stands ahead of B0 in hand 1, A0 in hand 0; nothing lets A0 come behind A1 but the show.
        slots = {**own_slots(APART), A1: 0}
        pieces = [[A0], [A1, B1], [B0, C0, C1]]
        done = self.shows(("late", B0, A0, A1), APART, pieces, [[0], [1, 2]], [(2, 0)], slots, [])
        self.assertEqual(done, [A0, A1, B1, B0])

    def test_late_with_the_spot_over_in_another_hand_behind_waits(self):
        # Hand 2 does A1 behind B1's twin pieces of hand 1; B0 and A1 don't wait for one another.
        pieces = [[A0], [B0, C0], [A1], [B1], [C1]]
        slots = {**own_slots(APART), B1: 0}
        done = self.shows(("late", B0, A0, B1), APART, pieces, [[0, 1], [2], [3, 4]], [(3, 2)], slots, [])
        self.assertEqual(done, [A0, A1, B1, B0])
        # The same with A1 behind A0, so that the spot over is behind made in each run.
        done = self.shows(("late", B0, A0, B1), APART, pieces, [[0, 1], [2], [3, 4]], [(3, 2), (2, 0)], slots, [])
        self.assertEqual(done, [A0, A1, B1, B0])

    def test_late_in_one_piece_of_the_hand_and_by_four_hands(self):
        slots = {**own_slots(LINE), M1: 0}
        pieces = [[L1], [L2], [L3], [M1], [M2], [M3]]
        waits = [(3, 0), (4, 0), (4, 1), (5, 1), (5, 2)]
        hands = [[0, 3], [1, 4], [2], [5]]
        done = self.shows(("late", M2, L1, M1), LINE, pieces, hands, waits, slots, [])
        self.assertEqual(done, [L1, M1, L2, M2])

    def test_late_where_a_third_spot_takes_the_slot_too(self):
        slots = {spot: 0 for spot in APART.all_spots()}
        pieces = [[A0, B0, C0], [A1, B1, C1]]
        self.shows(("late", B0, A0, A1), APART, pieces, [[0], [1]], [], slots, [])
        self.shows(("late", B0, A0, A1), APART, pieces, [[1], [0]], [], slots, [])

    def test_gone(self):
        slots = {**own_slots(APART), C1: 4}
        pieces = [[A0, B0, C0], [A1, B1, C1]]
        self.shows(("gone", C0, C1), APART, pieces, [[0], [1]], [], slots, [C0])
        self.shows(("gone", C1, C0), APART, pieces, [[0], [1]], [], slots, [C1])
        self.shows(("gone", C0, C1), APART, pieces, [[1], [0]], [], slots, [C1, C0])
        self.shows(("gone", A0, C1), APART, [[A0, B0, C0, A1, B1, C1]], [[0]], [], {**own_slots(APART), C1: 0}, [A0])

    def test_gone_where_the_spot_over_mostly_comes_first(self):
        # Hand 0 is done first by go_on, and its C1 lies in the slot ahead of C0: so the other way about.
        slots = {**own_slots(APART), C1: 4}
        pieces = [[A1, B1, C1], [A0], [B0], [C0]]
        done = self.shows(("gone", C0, C1), APART, pieces, [[0], [1], [2, 3]], [(2, 1)], slots, [C0])
        self.assertLess(done.index(C0), done.index(C1))

    def test_long_hands(self):
        job = plain_job([2, 5], [("round",), ("round",)], "([1 0 0] + [1 1 0])", 12)
        spots = job.all_spots()
        pieces = [[spot] for spot in spots]
        first, last = spots[0], spots[-1]
        # Two hands: one does a place of line 0 each, with waits both ways but for one that lacks.
        hands = [[n for n in range(120) if spots[n][1][0] == side] for side in range(2)]
        waits = [(n, spots.index((spots[n][0] - 1, (1 - spots[n][1][0], spots[n][1][1])))) for n in range(10, 120)]
        self.shows(None, job, pieces, hands, waits, own_slots(job), spots)
        lacking = [wait for wait in waits if wait[0] != 119]
        done = self.shows(("early", last, (11, (0, 4))), job, pieces, hands, lacking, own_slots(job), [])
        self.assertGreater(len(done), 100)
        slots = {**own_slots(job), (12, (0, 4)): own_slots(job)[(11, (0, 4))]}
        self.shows(("late", last, (11, (0, 4)), (12, (0, 4))), job, pieces, hands, waits, slots, [])
        self.shows(("gone", first, last), job, pieces, hands, waits, {**own_slots(job), last: 0}, [first])
        self.shows(("ring", [119]), job, pieces, hands, waits + [(119, 119)], own_slots(job), [])

    def test_thrown_papers(self):
        dice = Dice(149)
        kinds = []
        for _ in range(700):
            job = thrown_job(dice, 20)
            paper = thrown_paper(dice, job, dice.one_of([1, 2, 3, 5, 8, 40]))
            self.check_show(paper)
            clash = find_clash(paper)
            kinds.append(clash and clash[0])
        for kind in [None, "ring", "early", "late", "gone"]:
            self.assertGreater(kinds.count(kind), 20, kind)

    def test_what_is_told_is_the_askers_own(self):
        paper = Paper(APART, [[B0, A0, C0, A1, B1, C1]], [[0]], [], own_slots(APART), [])
        show_clash(paper).append(5)
        self.assertEqual(show_clash(paper), [0])


if __name__ == "__main__":
    unittest.main()

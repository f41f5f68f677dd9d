"""Stage 7: runs."""

import copy
import unittest

from helper import (
    Dice, changed_paper, is_same, made, odd_things, own_slots, paper_values, plain_job, refused, thrown_job, thrown_paper,
)
from slanttiles.clashes import find_clash
from slanttiles.errors import NoPaper
from slanttiles.leaning import leans_of
from slanttiles.papers import Paper
from slanttiles.plain_way import plain_worths
from slanttiles.runs import Run

# Three places, each of the one ahead and ten times its own, two rounds: 15 21 32, then 155 225 341.
LINE = made([3], [("fixed", 5)], "([1 -1] + (10 * [1 0]))", 1000, 2, [[1, 2, 3]])
L1, L2, L3, M1, M2, M3 = LINE.all_spots()
WORTHS = {L1: 15, L2: 21, L3: 32, M1: 155, M2: 225, M3: 341}
# Two places, each one more than its own place one round back, three rounds: 4 5, 5 6, 6 7.
APART = made([2], [("round",)], "([1 0] + 1)", 97, 3, [[3, 4]])
A0, A1, B0, B1, C0, C1 = APART.all_spots()
EMPTY = made([2], [("round",)], "[1 0]", 97, 0, [[3, 4]])


def line_paper(pieces, hands, waits, slots=None, wanted=()):
    return Paper(LINE, pieces, hands, waits, slots or own_slots(LINE), list(wanted))


def apart_paper(pieces, hands, waits, slots=None, wanted=()):
    return Paper(APART, pieces, hands, waits, slots or own_slots(APART), list(wanted))


def all_told(run):
    """Copies of all that a run tells."""
    paper = run.paper
    return copy.deepcopy([
        run.ready(), [run.next_spot(hand) for hand in range(len(paper.hands))], run.is_over(), run.done_spots(),
        run.wrong_reads(), [run.held(slot) for slot in range(-2, 123)], [run.told(spot) for spot in paper.job.all_spots()],
    ])


class Slow:
    """A run reckoned anew from its beginning by the hands that step, to check the other by."""

    def __init__(self, paper, steps):
        self.paper = paper
        self.rows = [[(p, at) for p in hand for at in range(len(paper.pieces[p]))] for hand in paper.hands]
        self.at = [0] * len(self.rows)
        self.lies, self.spots, self.wrong = {}, [], []
        for hand in steps:
            self.do(hand)

    def do(self, hand):
        piece, at = self.rows[hand][self.at[hand]]
        reader, slots = self.paper.pieces[piece][at], self.paper.slots
        lies = dict(self.lies)
        for made_spot in leans_of(self.paper.job, reader):
            there = lies[slots[made_spot]][0] if slots[made_spot] in lies else None
            if there != made_spot:
                self.wrong.append((reader, made_spot, there))
        worth = self.paper.job.next_worth(reader, lambda spot: lies.get(slots[spot], (None, 0))[1])
        self.lies[slots[reader]] = (reader, worth)
        self.spots.append(reader)
        self.at[hand] += 1

    def piece_is_done(self, piece):
        done = [step for hand, row in enumerate(self.rows) for step in row[:self.at[hand]]]
        return all((piece, at) in done for at in range(len(self.paper.pieces[piece])))

    def can(self, hand):
        if self.at[hand] == len(self.rows[hand]):
            return False
        piece, at = self.rows[hand][self.at[hand]]
        return at > 0 or all(self.piece_is_done(q) for p, q in self.paper.waits if p == piece)

    def all_told(self):
        slots = self.paper.slots
        rests = [row[at:at + 1] for at, row in zip(self.at, self.rows)]
        told = [self.lies.get(slots[spot], (None, 0)) for spot in self.paper.job.all_spots()]
        return [
            [hand for hand in range(len(self.rows)) if self.can(hand)],
            [self.paper.pieces[rest[0][0]][rest[0][1]] if rest else None for rest in rests],
            all(at == len(row) for at, row in zip(self.at, self.rows)),
            self.spots, self.wrong, [self.lies.get(slot) for slot in range(-2, 123)],
            [worth if there == spot else None for spot, (there, worth) in zip(self.paper.job.all_spots(), told)],
        ]


class Told(unittest.TestCase):
    def same(self, told, should):
        self.assertTrue(is_same(told, should), told)

    def test_one_hand(self):
        row = LINE.all_spots()
        run = Run(line_paper([row], [[0]], []))
        for count, spot in enumerate(row):
            self.same(run.ready(), [0])
            self.same(run.next_spot(0), spot)
            self.same(run.is_over(), False)
            self.same(run.done_spots(), row[:count])
            self.same([run.told(other) for other in row], [WORTHS[s] for s in row[:count]] + [None] * (6 - count))
            self.same([run.held(slot) for slot in range(6)], [(s, WORTHS[s]) for s in row[:count]] + [None] * (6 - count))
            self.assertIsNone(run.step(0))
        self.same([run.ready(), run.next_spot(0), run.is_over(), run.done_spots()], [[], None, True, row])
        self.same(run.wrong_reads(), [])
        self.same([run.told(spot) for spot in row], [WORTHS[spot] for spot in row])

    def test_two_hands_and_waits(self):
        run = Run(line_paper([[L1, L2], [L3], [M1], [M2, M3]], [[0, 2], [1, 3]], [(3, 0), (3, 1)]))
        self.same([run.ready(), run.next_spot(0), run.next_spot(1)], [[0, 1], L1, L3])
        run.step(1)
        # Piece 3 waits for piece 0, of which nothing, then one spot, then all is done.
        self.same([run.ready(), run.next_spot(0), run.next_spot(1)], [[0], L1, M2])
        run.step(0)
        self.same([run.ready(), run.next_spot(0), run.next_spot(1)], [[0], L2, M2])
        run.step(0)
        self.same([run.ready(), run.next_spot(0), run.next_spot(1)], [[0, 1], M1, M2])
        run.step(1)
        self.same([run.ready(), run.next_spot(0), run.next_spot(1)], [[0, 1], M1, M3])
        run.step(0)
        self.same([run.ready(), run.next_spot(0), run.next_spot(1), run.is_over()], [[1], None, M3, False])
        run.step(1)
        self.same([run.ready(), run.next_spot(0), run.next_spot(1), run.is_over()], [[], None, None, True])
        self.same(run.done_spots(), [L3, L1, L2, M2, M1, M3])
        self.same([run.told(spot) for spot in LINE.all_spots()], [WORTHS[spot] for spot in LINE.all_spots()])

    def test_a_wait_holds_at_the_first_spot_of_a_piece_alone(self):
        # Piece 1 is begun behind piece 0; within it nothing is waited for any more.
        run = Run(apart_paper([[A0], [A1, B1], [B0, C0, C1]], [[0], [1], [2]], [(1, 0), (2, 1)]))
        told = []
        for hand in [0, 1, 1, 2, 2, 2]:
            told.append(run.ready())
            run.step(hand)
        self.same(told, [[0], [1], [1], [2], [2], [2]])

    def test_three_and_four_hands(self):
        pieces = [[A0, B0], [A1], [B1], [C0, C1]]
        run = Run(apart_paper(pieces, [[0], [1], [2], [3]], [(2, 1), (3, 0), (3, 2)]))
        told = []
        for hand in [1, 0, 2, 0, 3, 3]:
            told.append(run.ready())
            run.step(hand)
        self.same(told, [[0, 1], [0, 2], [0, 2], [0], [3], [3]])
        self.same(run.done_spots(), [A1, A0, B1, B0, C0, C1])
        run = Run(apart_paper(pieces, [[3], [1, 2], [0]], [(3, 0), (3, 2)]))
        told = []
        for hand in [2, 1, 1, 2, 0, 0]:
            told.append(run.ready())
            run.step(hand)
        self.same(told, [[1, 2], [1, 2], [1, 2], [2], [0], [0]])
        self.same([run.told(spot) for spot in APART.all_spots()], [4, 5, 5, 6, 6, 7])

    def test_hands_without_pieces(self):
        run = Run(apart_paper([[A0, B0, C0, A1, B1, C1]], [[], [0], [], []], []))
        self.same([run.next_spot(hand) for hand in range(4)], [None, A0, None, None])
        for _ in range(6):
            self.same(run.ready(), [1])
            run.step(1)
        self.same([run.ready(), run.is_over()], [[], True])

    def test_papers_without_pieces(self):
        for job, slots in [(EMPTY, {}), (LINE, own_slots(LINE))]:
            for hands in [[[]], [[], [], []]]:
                run = Run(Paper(job, [], hands, [], slots, []))
                run.go_on()
                run.go([0, 1, 2])
                self.same([run.ready(), run.is_over(), run.done_spots(), run.wrong_reads()], [[], True, [], []])
                self.same([run.next_spot(hand) for hand in range(len(hands))], [None] * len(hands))
                self.same([run.told(spot) for spot in job.all_spots()], [None] * len(job.all_spots()))
                self.same([run.held(slot) for slot in [0, 1, 5]], [None] * 3)

    def test_waits_that_stand_twice(self):
        run = Run(apart_paper([[A0, B0, C0], [A1, B1, C1]], [[0], [1]], [(1, 0), (1, 0)]))
        self.same(run.ready(), [0])
        run.go([0, 0])
        self.same(run.ready(), [0])
        run.step(0)
        self.same(run.ready(), [1])

    def test_a_piece_that_waits_for_itself(self):
        run = Run(apart_paper([[A0, B0, C0], [A1, B1, C1]], [[0], [1]], [(1, 1)]))
        self.same(run.ready(), [0])
        run.go_on()
        self.same([run.ready(), run.is_over(), run.next_spot(1)], [[], False, A1])
        self.same(run.done_spots(), [A0, B0, C0])

    def test_a_piece_that_waits_for_one_of_its_own_hand(self):
        pieces = [[A0, B0, C0], [A1, B1, C1]]
        run = Run(apart_paper(pieces, [[0, 1]], [(1, 0)]))
        run.go_on()
        self.same([run.is_over(), run.done_spots()], [True, [A0, B0, C0, A1, B1, C1]])
        run = Run(apart_paper(pieces, [[0, 1]], [(0, 1)]))
        self.same([run.ready(), run.is_over(), run.next_spot(0)], [[], False, A0])

    def test_a_ring_of_two(self):
        run = Run(apart_paper([[A0], [A1], [B0, B1, C0, C1]], [[0], [1], [2]], [(0, 1), (1, 0)]))
        self.same([run.ready(), run.is_over()], [[2], False])
        run.go_on()
        self.same([run.ready(), run.is_over(), run.done_spots()], [[], False, [B0, B1, C0, C1]])

    def test_held_of_any_number(self):
        run = Run(line_paper([[L1, L2, L3, M1, M2, M3]], [[0]], [], {**own_slots(LINE), M3: 119}))
        run.go_on()
        self.same(run.held(119), (M3, 341))
        self.same(run.held(4), (M2, 225))
        for slot in [-1, -6, 5, 6, 118, 120, 121, 10 ** 12, -10 ** 12, 10 ** 39]:
            self.assertIsNone(run.held(slot))
        for truth in [True, False]:
            self.assertIsNone(run.held(truth))

    def test_what_is_told_is_the_askers_own(self):
        run = Run(line_paper([[M2], [L1, L2, L3, M1, M3]], [[0], [1]], []))
        run.go([0, 0])
        before = all_told(run)
        run.ready().append(7)
        run.done_spots().clear()
        run.wrong_reads().clear()
        self.same(all_told(run), before)
        told = [run.ready(), run.done_spots(), run.wrong_reads()]
        run.go_on()
        self.same(told, [before[0], before[3], before[4]])

    def test_two_runs_of_one_paper(self):
        paper = line_paper([[L1, L2, L3], [M1, M2, M3]], [[0], [1]], [])
        values = paper_values(paper)
        one, other = Run(paper), Run(paper)
        before = all_told(other)
        one.go([1, 1, 0])
        self.same(all_told(other), before)
        other.go_on()
        self.same(one.done_spots(), [M1, M2, L1])
        self.same(other.done_spots(), LINE.all_spots())
        self.same(other.wrong_reads(), [])
        self.same(paper_values(paper), values)
        self.same(all_told(Run(paper)), before)


class Wrong(unittest.TestCase):
    def same(self, told, should):
        self.assertTrue(is_same(told, should), told)

    def test_not_made_yet(self):
        run = Run(apart_paper([[B0, A0, C0, A1, B1, C1]], [[0]], []))
        run.step(0)
        self.same(run.wrong_reads(), [(B0, A0, None)])
        self.same([run.told(B0), run.held(2)], [1, (B0, 1)])
        run.go_on()
        # C0 reads B0 from its slot, and that is B0's worth, however it came.
        self.same(run.wrong_reads(), [(B0, A0, None)])
        self.same([run.told(spot) for spot in APART.all_spots()], [4, 5, 1, 6, 2, 7])

    def test_let_go_already(self):
        slots = {**own_slots(APART), A1: 0}
        run = Run(apart_paper([[A0, A1, B0, B1, C0, C1]], [[0]], [], slots))
        run.go([0, 0])
        self.same([run.held(0), run.told(A0), run.told(A1)], [(A1, 5), None, 5])
        run.step(0)
        self.same(run.wrong_reads(), [(B0, A0, A1)])
        self.same(run.told(B0), 6)
        run.go_on()
        self.same(run.wrong_reads(), [(B0, A0, A1)])
        self.same([run.told(spot) for spot in APART.all_spots()], [None, 5, 6, 6, 7, 7])

    def test_not_made_yet_while_another_spot_lies_there(self):
        slots = {**own_slots(APART), A1: 0}
        run = Run(apart_paper([[A1, B0, A0, C0, B1, C1]], [[0]], [], slots))
        run.go([0, 0])
        self.same(run.wrong_reads(), [(B0, A0, A1)])
        self.same(run.told(B0), 6)
        run.go_on()
        self.same(run.wrong_reads(), [(B0, A0, A1), (B1, A1, A0)])

    def test_two_in_one_step(self):
        run = Run(line_paper([[M2, L2, M3, L1, L3, M1]], [[0]], []))
        run.step(0)
        self.same(run.wrong_reads(), [(M2, L1, None), (M2, L2, None)])
        self.same(run.told(M2), 0)
        run.go_on()
        self.same(run.wrong_reads(), [(M2, L1, None), (M2, L2, None), (M3, L3, None)])
        self.same(run.told(M3), 21)

    def test_of_one_step_by_rising_made(self):
        # The takes rise by their steps, -1 then 1, and lead to the places 2 and 1.
        job = made([3], [("round",)], "([1 -1] + [1 1])", 97, 2, [[1, 2, 4]])
        a, b, c, d, e, f = job.all_spots()
        run = Run(Paper(job, [[d, a, b, c, e, f]], [[0]], [], {a: 0, b: 1, c: 1, d: 2, e: 3, f: 4}, []))
        run.step(0)
        self.same(run.wrong_reads(), [(d, b, None), (d, c, None)])
        run.go_on()
        self.same(run.wrong_reads()[2:], [(f, b, c)])

    def test_each_once(self):
        job = made([2], [("round",)], "(([1 -1] + [1 1]) + [1 1])", 97, 2, [[1, 2]])
        a, b, c, d = job.all_spots()
        run = Run(Paper(job, [[c, a, b, d]], [[0]], [], {a: 0, b: 0, c: 0, d: 1}, []))
        run.go([0, 0])
        self.same(run.wrong_reads(), [(c, b, None)])
        run.go_on()
        self.same(run.wrong_reads(), [(c, b, None), (d, a, b)])
        # Each take takes what lies there: b's worth, 1 + 1 + 1.
        self.same(run.told(d), 9)

    def test_a_spot_that_takes_the_slot_of_what_it_reads(self):
        slots = {A0: 7, B0: 7, C0: 7, A1: 3, B1: 3, C1: 3}
        run = Run(apart_paper([[A0, B0, C0], [A1, B1, C1]], [[0], [1]], [], slots, [C0, C1]))
        run.go([0, 1, 0, 1])
        self.same([run.held(7), run.held(3), run.told(A0), run.told(B0)], [(B0, 5), (B1, 6), None, 5])
        run.go_on()
        self.same([run.wrong_reads(), run.told(C0), run.told(C1), run.told(B1)], [[], 6, 7, None])

    def test_spots_that_stand_twice_are_done_twice(self):
        slots = {**own_slots(APART), A1: 0}
        run = Run(apart_paper([[A0, B0, A1, B0, B1, C0], [C1, C1]], [[0], [1]], [], slots))
        run.go([0, 0])
        self.same(run.told(B0), 5)
        run.go([0, 0])
        self.same([run.told(B0), run.wrong_reads()], [6, [(B0, A0, A1)]])
        run.go_on()
        self.same(run.done_spots(), [A0, B0, A1, B0, B1, C0, C1, C1])
        self.same([run.is_over(), run.told(C0), run.wrong_reads()], [True, 7, [(B0, A0, A1)]])

    def test_a_spot_that_stands_twice_one_behind_the_other(self):
        run = Run(apart_paper([[A0, A0], [A0]], [[0], [1]], [(1, 0)]))
        told = []
        while run.ready():
            told.append(run.ready())
            run.go([0])
        self.same(told, [[0], [0], [1]])
        self.same([run.done_spots(), run.is_over(), run.told(A0)], [[A0, A0, A0], True, 4])

    def test_spots_that_stand_nowhere(self):
        run = Run(apart_paper([[B0, C0], [A1]], [[0], [1]], []))
        run.go_on()
        self.same(run.done_spots(), [B0, C0, A1])
        self.same(run.is_over(), True)
        self.same(run.wrong_reads(), [(B0, A0, None)])
        self.same([run.told(spot) for spot in APART.all_spots()], [None, 5, 1, None, 2, None])

    def test_a_wanted_one_that_is_gone(self):
        slots = {**own_slots(APART), C1: 4}
        paper = apart_paper([[A0, B0, C0], [A1, B1, C1]], [[0], [1]], [], slots, [C0])
        self.assertEqual(find_clash(paper), ("gone", C0, C1))
        run = Run(paper)
        run.go_on()
        self.same([run.wrong_reads(), run.told(C0), run.told(C1)], [[], None, 7])
        run = Run(paper)
        run.go([1, 1, 1, 0, 0, 0])
        self.same([run.wrong_reads(), run.told(C0), run.told(C1)], [[], 6, None])


class Going(unittest.TestCase):
    def same(self, told, should):
        self.assertTrue(is_same(told, should), told)

    def no_step(self, run, thing):
        before = all_told(run)
        refused(self, NoPaper, "step", run.step, thing)
        self.same(all_told(run), before)

    def test_steps_that_are_refused(self):
        run = Run(apart_paper([[A0, B0, C0], [A1, B1, C1]], [[0], [1], []], [(1, 0)]))
        for hand in [1, 2, 3, 4, -1, -2, -3, 10 ** 12, -10 ** 39]:
            self.no_step(run, hand)
        run.step(0)
        for thing in odd_things() + ["0", [0], (0,), None, False, True]:
            self.no_step(run, thing)
        run.go([0, 0])
        for hand in [0, 2, -2, True, False]:
            self.no_step(run, hand)
        run.go_on()
        for hand in [0, 1, 2, -1]:
            self.no_step(run, hand)
        self.same(run.is_over(), True)

    def test_truths_and_numbers_below_0_are_no_hands(self):
        run = Run(apart_paper([[A0, B0, C0], [A1, B1, C1]], [[0], [1]], []))
        self.same(run.ready(), [0, 1])
        for thing in [True, False, -1, -2, 2]:
            self.no_step(run, thing)

    def test_go_by_numbers_of_any_size(self):
        paper = apart_paper([[A0, B0], [A1, B1], [C0], [C1]], [[0], [1], [2], [3]], [(2, 0), (3, 1)])
        run = Run(paper)
        self.assertIsNone(run.go([-1]))
        # The last of hands 0 and 1; then again hand 1; then hand 3 of 0 and 3; then hand 0.
        self.same(run.done_spots(), [A1])
        run.go([10 ** 30 + 1])
        self.same([run.done_spots(), run.ready()], [[A1, B1], [0, 3]])
        run.go([-3])
        self.same(run.done_spots(), [A1, B1, C1])
        run.go([10 ** 39 + 7])
        self.same(run.done_spots(), [A1, B1, C1, A0])
        run.go([])
        self.same(run.done_spots(), [A1, B1, C1, A0])
        run.go([5, -5, 0, 1, 2, 3])
        self.same([run.done_spots(), run.is_over()], [[A1, B1, C1, A0, B0, C0], True])
        choices = [2, 3, 1, 1, 0, 0, 5, 8]
        run = Run(paper)
        run.go(choices)
        self.same([run.done_spots(), choices], [[A0, A1, B1, C1, B0, C0], [2, 3, 1, 1, 0, 0, 5, 8]])

    def test_go_where_none_can(self):
        run = Run(apart_paper([[A0, B0, C0, A1, B1, C1]], [[0]], [(0, 0)]))
        before = all_told(run)
        run.go([0, 1, -1])
        run.go_on()
        self.same(all_told(run), before)

    def test_go_on(self):
        paper = apart_paper([[A0], [B0, C0], [A1, B1, C1]], [[2], [0, 1]], [(2, 0)])
        run = Run(paper)
        self.assertIsNone(run.go_on())
        # As soon as hand 0 can step, it does.
        self.same(run.done_spots(), [A0, A1, B1, C1, B0, C0])
        run = Run(paper)
        run.go([0, 1, 0])
        self.same(run.done_spots(), [A0, B0, A1])
        run.go_on()
        self.same(run.done_spots(), [A0, B0, A1, B1, C1, C0])
        run.go_on()
        self.same(len(run.done_spots()), 6)


class AllRuns(unittest.TestCase):
    def step_every_run(self, paper, check):
        """Step each run of a paper to its end; states that lie and stand alike are gone on from once."""
        seen, left = set(), [[]]
        while left:
            steps = left.pop()
            run = Run(paper)
            for hand in steps:
                run.step(hand)
            state = (str([run.next_spot(hand) for hand in range(len(paper.hands))]), str(sorted(run.lying.items())))
            # A step may read wrongly and still lead to a state that is known: so each one is looked at.
            check(run)
            if state not in seen:
                seen.add(state)
                left.extend(steps + [hand] for hand in run.ready())
        return len(seen)

    def thrown(self, seed, many, most_spots):
        dice = Dice(seed)
        for _ in range(many):
            job = thrown_job(dice, most_spots)
            yield dice, thrown_paper(dice, job, dice.one_of([1, 2, 3, 5, 8, 40]))

    def test_papers_that_are_let_by(self):
        let_by, states = 0, 0
        for dice, paper in self.thrown(131, 500, 9):
            if find_clash(paper) is not None:
                paper = changed_paper(paper, slots=own_slots(paper.job))
            if find_clash(paper) is None:
                worths = plain_worths(paper.job)
                states += self.step_every_run(paper, lambda run: self.goes_right(run, paper, worths))
                let_by += 1
        self.assertGreater(let_by, 100)
        self.assertGreater(states, 1500)

    def goes_right(self, run, paper, worths):
        self.assertEqual(run.wrong_reads(), [])
        self.assertEqual(run.is_over(), run.ready() == [])
        if run.is_over():
            self.assertEqual([run.told(spot) for spot in paper.wanted], [worths[spot] for spot in paper.wanted])

    def test_any_papers_against_runs_reckoned_anew(self):
        kinds = []
        for dice, paper in self.thrown(137, 400, 12):
            pieces = [list(piece) for piece in paper.pieces]
            if pieces and dice.below(6) == 0:
                dice.one_of(pieces).append(dice.one_of(paper.job.all_spots()))
            if pieces and dice.below(6) == 0:
                dice.one_of(pieces)[0] = dice.one_of(paper.job.all_spots())
            if pieces and dice.below(4) == 0 and len(pieces[-1]) > 1:
                pieces[-1].pop()
            paper = changed_paper(paper, pieces=pieces)
            clash = find_clash(paper)
            kinds.append(clash and clash[0])
            values = paper_values(paper)
            run, steps = Run(paper), []
            while run.ready():
                steps.append(dice.one_of(run.ready()))
                run.step(steps[-1])
                if dice.below(4) == 0:
                    self.assertTrue(is_same(all_told(run), Slow(paper, steps).all_told()))
            self.assertTrue(is_same(all_told(run), Slow(paper, steps).all_told()))
            self.assertTrue(is_same(paper_values(paper), values))
        for kind in [None, "twice", "left", "ring", "early", "late", "gone"]:
            self.assertGreater(kinds.count(kind), 5, kind)

    def test_120_spots_and_400_waits(self):
        job = plain_job([2, 5], [("round",), ("round",)], "(([1 0 0] + [1 1 0]) + [2 0 1])", 12)
        spots = job.all_spots()
        hands = [list(range(hand, 120, 4)) for hand in range(4)]
        waits = [(p, q) for p in range(10, 120) for q in range(p - p % 10 - 4, p - p % 10)][:400]
        run = Run(Paper(job, [[spot] for spot in spots], hands, waits, own_slots(job), spots))
        run.go(list(range(200)))
        self.assertTrue(run.is_over())
        self.assertEqual(len(run.done_spots()), 120)


if __name__ == "__main__":
    unittest.main()

"""Stage 6: clashes of papers."""

import unittest

from helper import Dice, is_same, own_slots, plain_job, thrown_job, thrown_paper
from slanttiles.befores import Befores
from slanttiles.clashes import find_clash
from slanttiles.leaning import leans_of
from slanttiles.papers import Paper
from slanttiles.slants import slanted_pieces

# Two places, each of its own place one round back: A0 A1, then B0 B1, then C0 C1.
APART = plain_job([2], [("round",)], "[1 0]", 3)
A0, A1, B0, B1, C0, C1 = APART.all_spots()
# Three places, each of its own place and the one ahead of it, two rounds.
LINE = plain_job([3], [("fixed", 5)], "([1 -1] + [1 0])", 2)
L1, L2, L3, M1, M2, M3 = LINE.all_spots()
EMPTY = plain_job([2], [("round",)], "[1 0]", 0)


def all_clashes(paper):
    """All clashes of a paper in which each spot stands once, and that has no ring, in their order."""
    befores = Befores(paper)
    spots = paper.job.all_spots()
    before = {(a, b) for a in spots for b in spots if befores.spot_before(a, b)}
    reads = [(reader, made) for reader in spots for made in leans_of(paper.job, reader)]
    early = [("early", r, m) for r, m in reads if (m, r) not in before]
    late = [
        ("late", r, m, o) for r, m in reads for o in spots
        if o != r and o != m and paper.slots[o] == paper.slots[m] and (o, m) not in before and (r, o) not in before
    ]
    gone = [
        ("gone", w, o) for w in paper.wanted for o in spots
        if o != w and paper.slots[o] == paper.slots[w] and (o, w) not in before
    ]
    return sorted(early) + sorted(late) + sorted(gone)


class Runs:
    """All runs of a small paper, step by step, whoever steps when."""

    def __init__(self, paper):
        self.paper = paper
        self.rows = [[(p, at) for p in hand for at in range(len(paper.pieces[p]))] for hand in paper.hands]
        self.wrong = set()
        self.ends = []
        seen = set()
        left = [((0,) * len(self.rows), ())]
        while left:
            state = left.pop()
            if state not in seen:
                seen.add(state)
                left.extend(self.behind(*state))

    def is_done(self, piece, places):
        """Tell whether all spots of a piece are done."""
        hand = [piece in hand for hand in self.paper.hands].index(True)
        return (piece, len(self.paper.pieces[piece]) - 1) in self.rows[hand][:places[hand]]

    def can_step(self, hand, places):
        if places[hand] == len(self.rows[hand]):
            return False
        piece, at = self.rows[hand][places[hand]]
        return at > 0 or all(self.is_done(q, places) for p, q in self.paper.waits if p == piece)

    def behind(self, places, lies):
        """The states behind each step that can be done; lies are pairs of slots and spots."""
        able = [hand for hand in range(len(self.rows)) if self.can_step(hand, places)]
        if not able:
            all_done = all(place == len(row) for place, row in zip(places, self.rows))
            self.ends.append((all_done, dict(lies)))
        states = []
        for hand in able:
            piece, at = self.rows[hand][places[hand]]
            reader = self.paper.pieces[piece][at]
            held = dict(lies)
            for made in leans_of(self.paper.job, reader):
                if held.get(self.paper.slots[made]) != made:
                    self.wrong.add((reader, made))
            held[self.paper.slots[reader]] = reader
            stepped = places[:hand] + (places[hand] + 1,) + places[hand + 1:]
            states.append((stepped, tuple(sorted(held.items()))))
        return states

    def lets_go(self, wanted):
        """Tell whether at some end a wanted spot's worth lies in its slot no more."""
        slot = self.paper.slots[wanted]
        return any(all_done and held.get(slot) != wanted for all_done, held in self.ends)


class Clashes(unittest.TestCase):
    def clash(self, clash, *given):
        paper = Paper(*given)
        self.assertTrue(is_same(find_clash(paper), clash), find_clash(paper))
        self.assertTrue(is_same([paper.pieces, paper.hands, paper.waits, paper.slots, paper.wanted], list(given[1:])))

    def test_none(self):
        self.clash(None, EMPTY, [], [[]], [], {}, [])
        self.clash(None, EMPTY, [], [[], [], []], [], {}, [])
        spots = APART.all_spots()
        self.clash(None, APART, [spots], [[0]], [], own_slots(APART), spots)
        self.clash(None, APART, [[s] for s in spots], [[0, 1, 2, 3, 4, 5]], [], own_slots(APART), spots)
        self.clash(None, APART, [[A0, B0, C0], [A1, B1, C1]], [[0], [1]], [], own_slots(APART), spots)
        self.clash(None, APART, [[A0], [B0], [A1, B1, C1, C0]], [[0], [1], [2]], [(1, 0), (2, 1)], own_slots(APART), [])

    def test_the_example(self):
        job = plain_job([2], [("round",)], "[1 0]", 2)
        a, b, c, d = job.all_spots()
        pieces, hands = [[a, c], [b, d]], [[0], [1]]
        for wanted in [[], [c], [d], [c, d], [d, c]]:
            self.clash(None, job, pieces, hands, [], {a: 0, b: 1, c: 0, d: 1}, wanted)
            self.clash(("late", c, a, b), job, pieces, hands, [], {a: 0, b: 0, c: 0, d: 0}, wanted)

    def test_twice(self):
        slots = own_slots(APART)
        self.clash(("twice", B1), APART, [[A0, A1, B0, B1, C0, C1, B1]], [[0]], [], slots, [])
        self.clash(("twice", A1), APART, [[A0, A1, B0], [B1, C0, C1], [C1, A1]], [[0, 1, 2]], [], slots, [])
        self.clash(("twice", A0), APART, [[A0, A0, A1, B0, B1, C0, C1]], [[0]], [], slots, [])
        self.clash(("twice", B0), APART, [[C1, C1, C1], [B0], [B0]], [[0], [1], [2]], [], slots, [])

    def test_left(self):
        slots = own_slots(APART)
        self.clash(("left", A0), APART, [], [[]], [], slots, [])
        self.clash(("left", C1), APART, [[A0, A1, B0, B1, C0]], [[0]], [], slots, [])
        self.clash(("left", A1), APART, [[A0, B0, C0]], [[0]], [], slots, [A1])
        self.clash(("left", B0), APART, [[C0], [A1], [A0, B1]], [[0, 1, 2]], [], slots, [])

    def test_ring(self):
        slots = own_slots(APART)
        spots = APART.all_spots()
        self.clash(("ring", [0]), APART, [spots], [[0]], [(0, 0)], slots, [])
        self.clash(("ring", [1]), APART, [spots[:2], spots[2:4], spots[4:]], [[0], [1], [2]], [(1, 1), (2, 0)], slots, [])
        for hands, waits in [([[0], [1]], [(0, 1), (1, 0)]), ([[0, 1]], [(0, 1)])]:
            clash = find_clash(Paper(APART, [spots[:4], spots[4:]], hands, waits, slots, []))
            self.assertEqual((clash[0], sorted(clash[1])), ("ring", [0, 1]))
            self.assertEqual((len(clash), type(clash), type(clash[1])), (2, tuple, list))
        paper = Paper(APART, [[s] for s in spots], [[0, 2, 4], [1, 3, 5]], [(1, 4), (0, 5)], slots, [])
        clash = find_clash(paper)
        self.assertEqual((clash[0], sorted(clash[1])), ("ring", [0, 1, 2, 3, 4, 5]))
        ring = clash[1]
        steps = [(0, 2), (2, 4), (1, 3), (3, 5), (4, 1), (5, 0)]
        self.assertTrue(all(step in steps for step in zip(ring, ring[1:] + ring[:1])))

    def test_early(self):
        slots = own_slots(APART)
        # No wait from hand to hand.
        self.clash(("early", B0, A0), APART, [[A0, A1, B1, C1], [B0, C0]], [[0], [1]], [], slots, [])
        # A wait the wrong way, and a hand's order the wrong way.
        self.clash(("early", B0, A0), APART, [[A0, A1, B1, C1], [B0, C0]], [[0], [1]], [(0, 1)], slots, [])
        self.clash(("early", B0, A0), APART, [[A0, A1, B1, C1], [B0, C0]], [[1, 0]], [], slots, [])
        # One of its own piece that stands behind it.
        self.clash(("early", C1, B1), APART, [[A0, A1, B0, C0, C1, B1]], [[0]], [], slots, [])
        self.clash(("early", B1, A1), APART, [[A0, B0, C0], [B1, A1, C1]], [[0, 1]], [], slots, [])

    def test_the_least_early(self):
        slots = own_slots(LINE)
        row = [M3, M2, M1, L3, L2, L1]
        self.clash(("early", M1, L1), LINE, [row], [[0]], [], slots, [])
        self.clash(("early", M2, L1), LINE, [[L2, M3, M2, L1, M1, L3]], [[0]], [], slots, [])
        self.clash(("early", M2, L2), LINE, [[L1, M1, M3, M2, L2, L3]], [[0]], [], slots, [])
        self.clash(("early", M3, L3), LINE, [[L1, M1, L2, M2, M3, L3]], [[0]], [], slots, [])

    def test_late(self):
        slots = {A0: 0, A1: 1, B0: 2, B1: 3, C0: 4, C1: 5}
        row = [A0, A1, B1, B0, C0, C1]
        self.clash(None, APART, [row], [[0]], [], slots, [])
        self.clash(("late", B0, A0, A1), APART, [row], [[0]], [], {**slots, A1: 0}, [])
        # Behind its reader the slot is free, and ahead of the spot it was.
        self.clash(None, APART, [row], [[0]], [], {**slots, C1: 0, C0: 1}, [])
        self.clash(None, APART, [row], [[0]], [], {**slots, C0: 0}, [])
        self.clash(("late", C1, B1, B0), APART, [row], [[0]], [], {**slots, B0: 3}, [])
        self.clash(("late", C1, B1, C0), APART, [row], [[0]], [], {**slots, C0: 3}, [])

    def test_a_spot_that_takes_the_slot_of_what_it_reads(self):
        slots = {A0: 0, A1: 1, B0: 0, B1: 1, C0: 0, C1: 1}
        self.clash(None, APART, [APART.all_spots()], [[0]], [], slots, [C0, C1])
        self.clash(None, APART, [[A0, B0, C0], [A1, B1, C1]], [[0], [1]], [], slots, [C1, C0])
        # M1 takes the slot of L1, which M2 reads too: right behind M2 alone.
        slots = {L1: 0, L2: 1, L3: 2, M1: 0, M2: 3, M3: 4}
        self.clash(None, LINE, [[L1, L2, L3, M2, M1, M3]], [[0]], [], slots, [M1])
        self.clash(("late", M2, L1, M1), LINE, [[L1, L2, L3, M1, M2, M3]], [[0]], [], slots, [M1])

    def test_late_by_another_hand(self):
        slots = {A0: 0, A1: 0, B0: 1, B1: 2, C0: 1, C1: 2}
        pieces = [[A0, B0], [A1, B1], [C0, C1]]
        late = ("late", B0, A0, A1)
        self.clash(late, APART, pieces, [[0], [1], [2]], [(2, 0), (2, 1)], slots, [])
        self.clash(None, APART, pieces, [[0], [1], [2]], [(2, 0), (2, 1), (1, 0)], slots, [])
        self.clash(None, APART, pieces, [[0], [1], [2]], [(2, 0), (2, 1), (0, 1)], slots, [])
        self.clash(None, APART, pieces, [[0, 1, 2]], [], slots, [])

    def test_the_least_late(self):
        row = LINE.all_spots()
        self.clash(("late", M1, L1, L2), LINE, [row], [[0]], [], {spot: 0 for spot in row}, row)
        slots = {L1: 0, L2: 1, L3: 2, M1: 1, M2: 2, M3: 1}
        self.clash(("late", M2, L2, M1), LINE, [row], [[0]], [], slots, [])
        self.clash(("late", M3, L2, M1), LINE, [[L1, L2, L3, M2, M1, M3]], [[0]], [], {**slots, M2: 3}, [])
        self.clash(("late", M3, L3, M1), LINE, [row], [[0]], [], {L1: 0, L2: 1, L3: 2, M1: 2, M2: 2, M3: 3}, [])

    def test_gone(self):
        row = APART.all_spots()
        slots = {A0: 0, A1: 1, B0: 2, B1: 3, C0: 0, C1: 1}
        self.clash(None, APART, [row], [[0]], [], slots, [])
        self.clash(None, APART, [row], [[0]], [], slots, [B0, C0, C1, B1])
        self.clash(("gone", A0, C0), APART, [row], [[0]], [], slots, [A0])
        self.clash(("gone", A1, C1), APART, [row], [[0]], [], slots, [C0, A1])
        self.clash(("gone", A0, C0), APART, [row], [[0]], [], slots, [C1, A1, A0])
        # By another hand: neither is before the other.
        slots = {A0: 0, A1: 1, B0: 0, B1: 1, C0: 2, C1: 2}
        self.clash(("gone", C0, C1), APART, [[A0, B0, C0], [A1, B1, C1]], [[0], [1]], [], slots, [C0])
        self.clash(("gone", C1, C0), APART, [[A0, B0, C0], [A1, B1, C1]], [[0], [1]], [], slots, [C1])
        self.clash(None, APART, [[A0, B0, C0], [A1, B1, C1]], [[0], [1]], [(1, 0)], slots, [C1])

    def test_the_least_gone(self):
        job = plain_job([5], [("round",)], "3", 1)
        a, b, c, d, e = job.all_spots()
        slots = {a: 0, b: 1, c: 1, d: 0, e: 1}
        self.clash(("gone", b, c), job, [[a, b, c, d, e]], [[0]], [], slots, [e, c, b, d])
        self.clash(("gone", a, d), job, [[a, b, c, d, e]], [[0]], [], slots, [b, a])
        self.clash(("gone", b, e), job, [[a, c, b, d, e]], [[0]], [], slots, [c, b])
        self.clash(("gone", e, b), job, [[e, c, b, d, a]], [[0]], [], slots, [e, a])

    def test_which_is_told_where_several_are_there(self):
        same = {spot: 0 for spot in APART.all_spots()}
        row = APART.all_spots()
        wrong = [[C0, B0, A0, A1, B1]]
        self.clash(("twice", C0), APART, [[C0, B0, C0, A0, B1]], [[0]], [(0, 0)], same, row)
        self.clash(("left", C1), APART, wrong, [[0]], [(0, 0)], same, row)
        self.clash(("ring", [0]), APART, [wrong[0] + [C1]], [[0]], [(0, 0)], same, row)
        self.clash(("early", B0, A0), APART, [wrong[0] + [C1]], [[0]], [], same, row)
        self.clash(("late", B0, A0, A1), APART, [row], [[0]], [], same, row)
        slots = {A0: 0, A1: 1, B0: 0, B1: 1, C0: 0, C1: 1}
        self.clash(("gone", A0, B0), APART, [row], [[0]], [], slots, row)
        # A later clash's spots may be lesser ones.
        self.clash(("early", C1, B1), APART, [[A0, A1, B0, C0, C1, B1]], [[0]], [], same, row)

    def test_what_is_told_is_the_askers_own(self):
        paper = Paper(APART, [APART.all_spots()], [[0]], [(0, 0)], own_slots(APART), [])
        find_clash(paper)[1].clear()
        self.assertEqual(find_clash(paper), ("ring", [0]))

    def test_120_pieces_and_many_waits(self):
        text = "((([1 0 0] + [1 1 0]) + ([1 0 1] + [2 1 1])) + ([1 -1 0] + [1 0 -1]))"
        job = plain_job([2, 5], [("round",), ("round",)], text, 12)
        spots = job.all_spots()
        hands = [list(range(hand, 120, 3)) for hand in range(3)]
        waits = [(p, q) for p in range(3, 120) for q in range(p - 3, p) if p // 3 != q // 3]
        waits += [(p, q) for p in range(1, 120, 3) for q in [p - 1]]
        self.clash(None, job, [[s] for s in spots], [list(range(120))], [], own_slots(job), spots)
        for slots in [own_slots(job), {spot: 0 for spot in spots}]:
            paper = Paper(job, [[s] for s in spots], hands, waits, slots, spots)
            self.assertTrue(is_same(find_clash(paper), all_clashes(paper)[0]))
        rows = slanted_pieces(job, 1, [2, 5], [0, 0])
        folded = {spot: spot[0] % 3 * 10 + spot[1][0] * 5 + spot[1][1] for spot in spots}
        hands = [list(range(hand, 12, 2)) for hand in range(2)]
        waits = [(p, p - 1) for p in range(1, 12)]
        self.clash(None, job, rows, hands, waits, folded, rows[11] + rows[10])
        gone = ("gone", rows[8][0], rows[11][0])
        self.clash(gone, job, rows, hands, waits, folded, rows[11] + rows[8])


class ThrownPapers(unittest.TestCase):
    def throw(self, seed, many, most_spots):
        dice = Dice(seed)
        for _ in range(many):
            job = thrown_job(dice, most_spots)
            yield thrown_paper(dice, job, dice.one_of([1, 2, 3, 5, 8, 40]))

    def test_the_least_of_all_clashes(self):
        kinds = []
        for paper in self.throw(91, 500, 24):
            clash = find_clash(paper)
            if Befores(paper).ring() is not None:
                self.assertEqual(clash[0], "ring")
            else:
                self.assertTrue(is_same(clash, (all_clashes(paper) + [None])[0]))
            kinds.append(clash and clash[0])
        for kind in [None, "ring", "early", "late", "gone"]:
            self.assertGreater(kinds.count(kind), 10, kind)

    def test_just_papers_without_a_clash_go_right_in_each_run(self):
        kinds = []
        for paper in self.throw(97, 400, 9):
            clash = find_clash(paper)
            kinds.append(clash and clash[0])
            runs = Runs(paper)
            gone = [spot for spot in paper.wanted if runs.lets_go(spot)]
            if clash is None:
                self.assertEqual((runs.wrong, gone), (set(), []))
                self.assertTrue(all(all_done for all_done, held in runs.ends))
            elif clash[0] == "ring":
                self.assertFalse(any(all_done for all_done, held in runs.ends))
            elif clash[0] == "gone":
                self.assertEqual((runs.wrong, min(gone)), (set(), clash[1]))
            else:
                self.assertIn(clash[1:3], runs.wrong)
        for kind in [None, "ring", "early", "late", "gone"]:
            self.assertGreater(kinds.count(kind), 5, kind)

    def test_what_is_twice_or_left(self):
        for paper in self.throw(101, 60, 12):
            counts = [spot for piece in paper.pieces for spot in piece]
            for number, piece in enumerate(paper.pieces):
                pieces = [list(other) for other in paper.pieces]
                taken = pieces[number].pop()
                others = [spot for spot in counts if spot != taken]
                pieces[number].extend(others[:1] or [taken])
                told = ("twice", others[0]) if others else find_clash(paper)
                changed = Paper(paper.job, pieces, paper.hands, paper.waits, paper.slots, paper.wanted)
                self.assertEqual(find_clash(changed), told)
                pieces[number].pop()
                if pieces[number]:
                    changed = Paper(paper.job, pieces, paper.hands, paper.waits, paper.slots, paper.wanted)
                    self.assertEqual(find_clash(changed), ("left", taken))


if __name__ == "__main__":
    unittest.main()

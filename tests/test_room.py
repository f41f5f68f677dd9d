"""Stage 8: room."""

import itertools
import unittest

from helper import (
    Dice, Odd, changed_paper, is_same, odd_things, own_slots, paper_values, plain_job, refused, thrown_job, thrown_paper,
)
from slanttiles.befores import Befores
from slanttiles.clashes import find_clash
from slanttiles.errors import NoPaper
from slanttiles.leaning import leans_of, readers_of
from slanttiles.papers import Paper
from slanttiles.room import crowd_at, least_room, may_share, room_for, slots_wanted
from slanttiles.runs import Run

# Two places, each of its own place one round back: A0 A1, then B0 B1, then C0 C1.
APART = plain_job([2], [("round",)], "[1 0]", 3)
A0, A1, B0, B1, C0, C1 = APART.all_spots()
# Three places, each of its own place and the one ahead of it, two rounds.
LINE = plain_job([3], [("fixed", 5)], "([1 -1] + [1 0])", 2)
L1, L2, L3, M1, M2, M3 = LINE.all_spots()
EMPTY = plain_job([2], [("round",)], "[1 0]", 0)
ROW = [A0, A1, B0, B1, C0, C1]
SIDES = [[A0, B0, C0], [A1, B1, C1]]


def apart_paper(pieces, hands, waits, wanted, slots=None):
    return Paper(APART, pieces, hands, waits, slots or {spot: 0 for spot in ROW}, wanted)


def clashing_papers():
    """Papers whose clash comes of something else than their slots: each with its word."""
    return [
        ("twice", apart_paper([ROW + [B1]], [[0]], [], [])),
        ("left", apart_paper([ROW[:5]], [[0]], [], [])),
        ("left", apart_paper([], [[]], [], [])),
        ("ring", apart_paper([ROW], [[0]], [(0, 0)], [])),
        ("ring", apart_paper(SIDES, [[0], [1]], [(0, 1), (1, 0)], [])),
        ("early", apart_paper([[B0, A0, C0, A1, B1, C1]], [[0]], [], [])),
        ("early", apart_paper([[A0, A1], [B0, B1, C0, C1]], [[0], [1]], [], [])),
    ]


def no_spots_of(job):
    """Things that are no spots of a job of two places and three rounds."""
    beyond = [(0, (0,)), (4, (0,)), (1, (2,)), (1, (-1,)), (-1, (0,)), (1, (0, 0)), (1, ()), (10 ** 12, (0,))]
    other_kinds = [(True, (0,)), (1, (False,)), (1, [0]), [1, (0,)], (1, 0), (1, (0,), 0), ("1", (0,)), (None, (0,))]
    found = beyond + other_kinds + odd_things()
    assert not any(job.is_spot(thing) for thing in found)
    return found


def safe_by_words(paper, one, other):
    """Whether two spots may share a slot, by the document's words."""
    befores = Befores(paper)
    for a, b in [(one, other), (other, one)]:
        for reader in readers_of(paper.job, a):
            if reader != b and not befores.spot_before(b, a) and not befores.spot_before(reader, b):
                return False
        if a in paper.wanted and not befores.spot_before(b, a):
            return False
    return True


def all_runs_go_right(paper):
    """Whether in each run no read is wrong and no wanted worth is gone at the end."""
    seen, left = set(), [[]]
    while left:
        steps = left.pop()
        run = Run(paper)
        for hand in steps:
            run.step(hand)
        if run.wrong_reads() or (run.is_over() and None in [run.told(spot) for spot in paper.wanted]):
            return False
        state = (str([run.next_spot(hand) for hand in range(len(paper.hands))]), str(sorted(run.lying.items())))
        if state not in seen:
            seen.add(state)
            left.extend(steps + [hand] for hand in run.ready())
    return True


class MayShare(unittest.TestCase):
    def share(self, told, paper, one, other):
        values = paper_values(paper)
        self.assertIs(may_share(paper, one, other), told, (one, other))
        self.assertIs(may_share(paper, other, one), told, (other, one))
        self.assertTrue(is_same(paper_values(paper), values))

    def test_one_hand(self):
        paper = apart_paper([ROW], [[0]], [], [C0, C1])
        self.share(False, paper, A0, A1)
        self.share(True, paper, A0, B1)
        self.share(False, paper, A1, B0)
        self.share(False, paper, B0, B1)
        self.share(True, paper, A1, C0)
        self.share(True, paper, A0, C1)
        self.share(False, paper, B1, C0)

    def test_a_spot_takes_the_slot_of_what_it_reads_last(self):
        paper = apart_paper([ROW], [[0]], [], [C0, C1])
        for one, other in [(A0, B0), (A1, B1), (B0, C0), (B1, C1)]:
            self.share(True, paper, one, other)
        # L1 is read by M1, then by M2: M2 may take its slot, M1 may not.
        paper = Paper(LINE, [LINE.all_spots()], [[0]], [], own_slots(LINE), [])
        self.share(False, paper, L1, M1)
        self.share(True, paper, L1, M2)
        paper = Paper(LINE, [[L1, L2, M2, M1, L3, M3]], [[0]], [], own_slots(LINE), [])
        self.share(True, paper, L1, M1)
        self.share(False, paper, L1, M2)

    def test_wanted(self):
        self.share(True, apart_paper([ROW], [[0]], [], []), C0, C1)
        self.share(False, apart_paper([ROW], [[0]], [], [C0]), C0, C1)
        self.share(True, apart_paper([ROW], [[0]], [], [C1]), C0, C1)
        self.share(False, apart_paper([ROW], [[0]], [], [C1, C0]), C0, C1)
        self.share(False, apart_paper([ROW], [[0]], [], [A0]), A0, B0)
        self.share(True, apart_paper([ROW], [[0]], [], [B0]), A0, B0)

    def test_several_hands(self):
        paper = apart_paper(SIDES, [[0], [1]], [], [])
        self.share(True, paper, A0, B0)
        self.share(True, paper, A0, C0)
        self.share(False, paper, A0, A1)
        self.share(False, paper, A0, C1)
        self.share(False, paper, B0, C1)
        self.share(True, paper, C0, C1)
        self.share(False, changed_paper(paper, wanted=[C0]), C0, C1)
        self.share(False, changed_paper(paper, wanted=[C1]), C0, C1)

    def test_several_hands_with_waits(self):
        paper = apart_paper(SIDES, [[0], [1]], [(1, 0)], [])
        for one, other in itertools.combinations(ROW, 2):
            self.share(True, paper, one, other)
        self.share(False, changed_paper(paper, wanted=[C0]), A1, C0)
        self.share(True, changed_paper(paper, wanted=[C1]), C0, C1)
        # B0 alone is awaited: what C0 reads may not lie with what hand 1 does.
        paper = apart_paper([[A0, B0], [C0], [A1, B1, C1]], [[0, 1], [2]], [(2, 0)], [])
        self.share(True, paper, A0, A1)
        self.share(False, paper, B0, A1)

    def test_the_papers_own_slots_are_not_looked_at(self):
        for hands, wanted in [([[0, 1]], [C0, C1]), ([[0], [1]], [C0]), ([[0], [1]], [A1])]:
            told = []
            for slots in [own_slots(APART), {spot: 0 for spot in ROW}, {spot: spot[1][0] for spot in ROW}]:
                paper = apart_paper(SIDES, hands, [], wanted, slots)
                told.append([may_share(paper, one, other) for one, other in itertools.permutations(ROW, 2)])
            self.assertEqual(told, [told[0]] * 3)

    def test_refused_for_a_clash(self):
        for word, paper in clashing_papers():
            self.assertEqual(find_clash(paper)[0], word)
            values = paper_values(paper)
            refused(self, NoPaper, "clash", may_share, paper, A0, B0)
            # The clash goes ahead of the spots.
            refused(self, NoPaper, "clash", may_share, paper, A0, A0)
            refused(self, NoPaper, "clash", may_share, paper, None, Odd())
            self.assertTrue(is_same(paper_values(paper), values))

    def test_not_refused_for_late_and_gone(self):
        late = apart_paper(SIDES, [[0], [1]], [], [])
        self.assertEqual(find_clash(late)[0], "late")
        self.share(True, late, A0, B0)
        gone = apart_paper([[A0, B0, C0, A1, B1, C1]], [[0]], [], [C0])
        self.assertEqual(find_clash(gone)[0], "gone")
        self.share(False, gone, C0, A1)
        self.share(True, gone, A0, A1)

    def test_refused_for_the_spots(self):
        paper = apart_paper([ROW], [[0]], [], [])
        for spot in ROW:
            refused(self, NoPaper, "spots", may_share, paper, spot, spot)
        for thing in no_spots_of(APART):
            refused(self, NoPaper, "spots", may_share, paper, thing, A0)
            refused(self, NoPaper, "spots", may_share, paper, B1, thing)
            refused(self, NoPaper, "spots", may_share, paper, thing, thing)
        empty = Paper(EMPTY, [], [[]], [], {}, [])
        refused(self, NoPaper, "spots", may_share, empty, (1, (0,)), (1, (1,)))

    def thrown(self, seed, many, most_spots):
        """Papers without a clash of their order."""
        dice = Dice(seed)
        for _ in range(many):
            paper = thrown_paper(dice, thrown_job(dice, most_spots), dice.one_of([1, 3, 40]))
            clash = find_clash(paper)
            if clash is None or clash[0] in ("late", "gone"):
                yield paper

    def test_thrown_papers(self):
        told = []
        for paper in self.thrown(151, 60, 14):
            for one, other in itertools.combinations(paper.job.all_spots(), 2):
                told.append(may_share(paper, one, other))
                self.assertIs(told[-1], safe_by_words(paper, one, other))
                slots = own_slots(paper.job)
                slots[other] = slots[one]
                self.assertIs(told[-1], find_clash(changed_paper(paper, slots=slots)) is None)
        self.assertGreater(min(told.count(True), told.count(False)), 100)

    def test_all_runs_of_small_papers(self):
        told = []
        for paper in self.thrown(157, 40, 6):
            for one, other in itertools.combinations(paper.job.all_spots(), 2):
                told.append(may_share(paper, one, other))
                slots = own_slots(paper.job)
                slots[one] = slots[other]
                self.assertIs(told[-1], all_runs_go_right(changed_paper(paper, slots=slots)))
        self.assertGreater(min(told.count(True), told.count(False)), 30)


class RoomFor(unittest.TestCase):
    def room(self, slots, paper):
        values = paper_values(paper)
        told = room_for(paper)
        self.assertTrue(is_same(told, slots), told)
        self.assertTrue(is_same(paper_values(paper), values))
        self.assertIsNone(find_clash(changed_paper(paper, slots=told)))

    def test_one_hand(self):
        self.room({A0: 0, A1: 1, B0: 0, B1: 1, C0: 0, C1: 1}, apart_paper([ROW], [[0]], [], [C0, C1]))
        self.room({A0: 0, A1: 1, B0: 0, B1: 1, C0: 0, C1: 0}, apart_paper([ROW], [[0]], [], []))
        # A0 stays in slot 0; B1 takes that of A1; B0, which C0 reads at last, has one of its own till then.
        self.room({A0: 0, A1: 1, B1: 1, B0: 2, C1: 1, C0: 1}, apart_paper([[A0, A1, B1, B0, C1, C0]], [[0]], [], [A0]))
        self.room({spot: slot for slot, spot in enumerate(ROW)}, apart_paper([ROW], [[0]], [], ROW))
        row = [A0, B0, C0, A1, B1, C1]
        self.room({spot: 0 for spot in row}, apart_paper([row], [[0]], [], [C1]))
        self.room({A0: 0, B0: 0, C0: 0, A1: 1, B1: 1, C1: 1}, apart_paper([row], [[0]], [], [C1, C0]))
        paper = Paper(LINE, [LINE.all_spots()], [[0]], [], own_slots(LINE), [M1, M2, M3])
        self.room({L1: 0, L2: 1, L3: 2, M1: 3, M2: 0, M3: 1}, paper)

    def test_several_hands(self):
        sides = {A0: 0, B0: 0, C0: 0, A1: 1, B1: 1, C1: 1}
        self.room(sides, apart_paper(SIDES, [[0], [1]], [], []))
        self.room(sides, apart_paper(SIDES, [[0], [], [1]], [], [C0, C1]))
        # The order is that of go_on: the least hand that can step goes first.
        self.room({A1: 0, B1: 0, C1: 0, A0: 1, B0: 1, C0: 1}, apart_paper(SIDES, [[1], [0]], [], [C0, C1]))
        self.room({spot: 0 for spot in ROW}, apart_paper(SIDES, [[0], [1]], [(1, 0)], []))
        self.room(sides, apart_paper(SIDES, [[0], [1]], [(1, 0)], [C0]))

    def test_several_hands_with_waits(self):
        # Order: A0, then by hand 0 as soon as it can: A1, B1, C1; then B0, C0. A1 waits for A0, B0 for nothing else.
        paper = apart_paper([[A0], [B0, C0], [A1, B1, C1]], [[2], [0, 1]], [(2, 0)], [C0])
        run = Run(paper)
        run.go_on()
        self.assertEqual(run.done_spots(), [A0, A1, B1, C1, B0, C0])
        # B0 reads A0, whoever steps when; so A1, B1 and C1 lie apart from it, and B0, C0 from these.
        self.room({A0: 0, A1: 1, B1: 1, C1: 1, B0: 0, C0: 0}, paper)

    def test_a_lesser_slot_may_be_free_for_a_later_spot_alone(self):
        # B0 could share with A1 no slot, with A0 it can.
        paper = apart_paper([[A0, A1], [B1, B0], [C0, C1]], [[0, 2], [1]], [(1, 0), (2, 1)], [C1, C0])
        self.room({A0: 0, A1: 1, B1: 1, B0: 0, C0: 0, C1: 1}, paper)

    def test_the_papers_own_slots_are_not_looked_at(self):
        for slots in [own_slots(APART), {spot: 0 for spot in ROW}, {spot: 119 for spot in ROW}]:
            self.room({A0: 0, A1: 1, B0: 0, B1: 1, C0: 0, C1: 1}, apart_paper([ROW], [[0]], [], [C0, C1], slots))

    def test_a_job_without_spots(self):
        self.room({}, Paper(EMPTY, [], [[]], [], {}, []))
        self.room({}, Paper(EMPTY, [], [[], []], [], {}, []))

    def test_refused(self):
        for word, paper in clashing_papers():
            refused(self, NoPaper, "clash", room_for, paper)

    def test_what_is_told_is_the_askers_own(self):
        paper = apart_paper([ROW], [[0]], [], [C0, C1])
        room_for(paper).clear()
        self.room({A0: 0, A1: 1, B0: 0, B1: 1, C0: 0, C1: 1}, paper)

    def test_thrown_papers(self):
        dice = Dice(163)
        many = 0
        for _ in range(150):
            paper = thrown_paper(dice, thrown_job(dice, 16), dice.one_of([1, 3, 40]))
            clash = find_clash(paper)
            if clash is None or clash[0] in ("late", "gone"):
                many += 1
                self.room(self.reckoned(paper), paper)
            else:
                refused(self, NoPaper, "clash", room_for, paper)
        self.assertGreater(many, 60)

    def reckoned(self, paper):
        """The slots as the document tells them, by may_share."""
        run = Run(paper)
        run.go_on()
        slots = {}
        for spot in run.done_spots():
            slot = 0
            while not all(may_share(paper, spot, other) for other in slots if slots[other] == slot):
                slot += 1
            slots[spot] = slot
        return slots

    def test_120_spots(self):
        text = "((([1 0 0] + [1 1 0]) + ([1 0 1] + [2 1 1])) + ([1 -1 0] + [1 0 -1]))"
        job = plain_job([2, 5], [("round",), ("round",)], text, 12)
        spots = job.all_spots()
        rows = [spots[at:at + 10] for at in range(0, 120, 10)]
        waits = [(p, p - 1) for p in range(1, 12)]
        paper = Paper(job, rows, [list(range(0, 12, 2)), list(range(1, 12, 2))], waits, own_slots(job), rows[11])
        slots = room_for(paper)
        self.assertIsNone(find_clash(changed_paper(paper, slots=slots)))
        self.assertLess(len(set(slots.values())), 31)


class LeastRoom(unittest.TestCase):
    def room(self, slots, many, crowd, job, row, wanted):
        given = ([*row], [*wanted])
        self.assertTrue(is_same(least_room(job, row, wanted), slots), least_room(job, row, wanted))
        self.assertTrue(is_same(slots_wanted(job, row, wanted), many))
        self.assertTrue(is_same(crowd_at(job, row, wanted), crowd), crowd_at(job, row, wanted))
        self.assertTrue(is_same((row, wanted), given))

    def test_the_documents_example(self):
        job = plain_job([1], [("round",)], "[1 0]", 3)
        a, b, c = job.all_spots()
        self.room({a: 0, b: 0, c: 0}, 1, (0, [a]), job, [a, b, c], [c])
        self.room({a: 0, b: 1, c: 1}, 2, (1, [a, b]), job, [a, b, c], [a, c])
        self.room({a: 0, b: 1, c: 1}, 2, (1, [a, b]), job, [a, b, c], [c, a])
        self.room({a: 0, b: 0, c: 1}, 2, (2, [b, c]), job, [a, b, c], [b])
        self.room({a: 0, b: 1, c: 2}, 3, (2, [a, b, c]), job, [a, b, c], [a, b, c])
        self.room({a: 0, b: 0, c: 0}, 1, (0, [a]), job, [a, b, c], [])

    def test_the_rounds_order(self):
        row = LINE.all_spots()
        slots = {L1: 0, L2: 1, L3: 2, M1: 3, M2: 0, M3: 1}
        self.room(slots, 4, (3, [L1, L2, L3, M1]), LINE, row, [M1, M2, M3])
        self.room(slots, 4, (3, [L1, L2, L3, M1]), LINE, row, [M3, M1, M2])
        self.room({**slots, M3: 0}, 4, (3, [L1, L2, L3, M1]), LINE, row, [])
        slots = {L1: 0, L2: 1, L3: 2, M1: 3, M2: 4, M3: 1}
        self.room(slots, 5, (4, [L1, L2, L3, M1, M2]), LINE, row, [L1, M1])

    def test_other_orders(self):
        slots = {L1: 0, M1: 1, L2: 2, M2: 0, L3: 3, M3: 2}
        self.room(slots, 4, (4, [L2, L3, M1, M2]), LINE, [L1, M1, L2, M2, L3, M3], [M1, M2, M3])
        slots = {L1: 0, M1: 1, L2: 1, M2: 0, L3: 0, M3: 0}
        self.room(slots, 2, (1, [L1, M1]), LINE, [L1, M1, L2, M2, L3, M3], [])
        slots = {L3: 0, L2: 1, M3: 0, L1: 2, M2: 1, M1: 2}
        self.room(slots, 3, (3, [L1, L2, M3]), LINE, [L3, L2, M3, L1, M2, M1], [M1, M2, M3])
        slots = {L3: 0, L2: 1, M3: 0, L1: 0, M2: 1, M1: 0}
        self.room(slots, 2, (1, [L2, L3]), LINE, [L3, L2, M3, L1, M2, M1], [M1, M2])

    def test_without_spots(self):
        self.room({}, 0, None, EMPTY, [], [])

    def test_a_wanted_one_that_is_read_is_kept(self):
        slots = {A0: 0, A1: 1, B0: 2, B1: 1, C0: 2, C1: 1}
        self.room(slots, 3, (2, [A0, A1, B0]), APART, ROW, [A0, C1, C0])

    def refuse(self, word, job, row, wanted):
        for call in [least_room, slots_wanted, crowd_at]:
            refused(self, NoPaper, word, call, job, row, wanted)

    def test_rows_that_are_refused(self):
        for thing in odd_things() + [None, 0, 1, "row", tuple(ROW), {spot: True for spot in ROW}, [ROW], set(ROW)]:
            self.refuse("row", APART, thing, [])
        for row in [ROW[:5], ROW[1:], ROW + [C1], ROW[:5] + [C0], ROW[:5] + [A0], ROW * 2, [A0] * 6, []]:
            self.refuse("row", APART, row, [])
        for thing in no_spots_of(APART):
            self.refuse("row", APART, ROW[:5] + [thing], [])
            self.refuse("row", APART, [thing] + ROW, [])
            self.refuse("row", EMPTY, [thing], [])
        for row in [[B0, A0, A1, B1, C0, C1], [A0, C0, A1, B0, B1, C1], ROW[::-1], [A0, A1, B0, B1, C0, C1][1:] + [A0]]:
            self.refuse("row", APART, row, [])
        self.refuse("row", LINE, [L1, M1, M2, L2, L3, M3], [])
        self.refuse("row", APART, [(True, (0,))] + ROW[1:], [])
        self.refuse("row", APART, [(1, (False,))] + ROW[1:], [])

    def test_wanted_that_are_refused(self):
        for thing in odd_things() + [None, 0, A0, (A0,), {A0: True}, {A0}, [[A0]]]:
            if not isinstance(thing, list) or len(thing) > 0:
                self.refuse("wanted", APART, ROW, thing)
        for wanted in [[A0, A0], [C1, C0, C1], ROW + [B0]]:
            self.refuse("wanted", APART, ROW, wanted)
        for thing in no_spots_of(APART):
            self.refuse("wanted", APART, ROW, [thing])
            self.refuse("wanted", APART, ROW, [A0, thing])

    def test_the_row_goes_ahead(self):
        self.refuse("row", APART, ROW[1:], None)
        self.refuse("row", APART, None, [A0, A0])
        self.refuse("row", APART, ROW[::-1], [(9, (9,))])

    def test_what_is_told_is_the_askers_own(self):
        least_room(APART, ROW, []).clear()
        crowd_at(APART, ROW, [])[1].clear()
        self.room({A0: 0, A1: 1, B0: 0, B1: 1, C0: 0, C1: 0}, 2, (1, [A0, A1]), APART, list(ROW), [])

    def test_no_fewer_slots_do(self):
        dice = Dice(167)
        manys = []
        for _ in range(60):
            job = thrown_job(dice, 6)
            row = self.thrown_row(dice, job)
            wanted = [spot for spot in dice.mixed(row) if dice.below(3) == 0]
            many = slots_wanted(job, row, wanted)
            manys.append(many)
            slots = least_room(job, row, wanted)
            pieces, hands = ([row], [[0]]) if row else ([], [[]])
            self.assertEqual(sorted(set(slots.values())), list(range(many)))
            self.assertIsNone(find_clash(Paper(job, pieces, hands, [], slots, wanted)))
            # Slots are tried by what they hold together: the first spot in slot 0, the next in 0 or 1, and so on.
            for numbers in self.sharings(len(row), many - 1):
                fewer = dict(zip(row, numbers))
                self.assertIsNotNone(find_clash(Paper(job, pieces, hands, [], fewer, wanted)))
        self.assertGreater(len(set(manys)), 3)

    def thrown_row(self, dice, job):
        """A row that goes right, its spots in a mixed order."""
        leans = {spot: leans_of(job, spot) for spot in job.all_spots()}
        row = []
        while len(row) < len(leans):
            free = [spot for spot in leans if spot not in row and all(made in row for made in leans[spot])]
            row.append(dice.one_of(free))
        return row

    def sharings(self, length, most):
        """All ways to give numbers below most, each first used behind all lesser ones."""
        ways = [[]] if length and most > 0 else []
        for _ in range(length):
            ways = [way + [n] for way in ways for n in range(min(most, max(way, default=-1) + 2))]
        return ways

    def test_the_crowd_is_as_great_as_the_slots(self):
        dice = Dice(173)
        for _ in range(60):
            job = thrown_job(dice, 24)
            row = self.thrown_row(dice, job)
            wanted = [spot for spot in dice.mixed(row) if dice.below(3) == 0]
            readers = {spot: set(readers_of(job, spot)) for spot in row}
            crowds = []
            for place, spot in enumerate(row):
                kept = [s for s in row[:place] if s in wanted or readers[s] & set(row[place + 1:])]
                crowds.append((place, sorted(kept + [spot])))
            most = max([len(spots) for place, spots in crowds], default=0)
            first = ([crowd for crowd in crowds if len(crowd[1]) == most] + [None])[0]
            self.assertTrue(is_same(slots_wanted(job, row, wanted), most))
            self.assertTrue(is_same(crowd_at(job, row, wanted), first))


if __name__ == "__main__":
    unittest.main()

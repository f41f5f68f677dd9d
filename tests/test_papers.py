"""Stage 6: papers."""

import unittest

from helper import Odd, is_same, odd_things, plain_job, refused
from slanttiles.errors import NoPaper
from slanttiles.papers import Paper

LINE = plain_job([2], [("fixed", 5)], "([1 -1] + [1 0])", 2)
A, B, C, D = LINE.all_spots()
EMPTY = plain_job([2], [("round",)], "[1 0]", 0)
FORTY = plain_job([5, 8], [("round",), ("round",)], "[1 0 0]", 3)
NO_SPOTS = [
    (0, (0,)), (3, (0,)), (1, (2,)), (1, (-1,)), (True, (0,)), (1, (True,)), (1, (False,)), (1, (0, 0)), (1, ()), (1, 0),
    (1,), (1, (0,), 0), ((0,), 1), 0, 1, 10 ** 39, "1@0", (10 ** 39, (0,)), (1, (10 ** 39,)),
]
ODD_SPOTS = NO_SPOTS + [[1, (0,)], (1, [0]), ({}, (0,)), (1, Odd()), (Odd(), (0,)), (1, (Odd(),)), [A], {A: 0}]


def given(**changed):
    """What a paper is made of, but for what is told otherwise."""
    parts = {
        "job": LINE, "pieces": [[A, C], [B], [D]], "hands": [[0, 2], [1]], "waits": [(2, 1), (2, 0)],
        "slots": {A: 0, B: 1, C: 119, D: 0}, "wanted": [D, C],
    }
    parts.update(changed)
    return [parts[name] for name in ["job", "pieces", "hands", "waits", "slots", "wanted"]]


def hashable(thing):
    try:
        hash(thing)
    except TypeError:
        return False
    return True


class Papers(unittest.TestCase):
    def made(self, **changed):
        """A paper whose values are checked to be what it was made of."""
        handed = given(**changed)
        paper = Paper(*handed)
        values = [paper.pieces, paper.hands, paper.waits, paper.slots, paper.wanted]
        self.assertIs(paper.job, handed[0])
        self.assertTrue(is_same(values, handed[1:]))
        return paper

    def refused(self, at, **changed):
        refused(self, NoPaper, at, Paper, *given(**changed))

    def test_hands(self):
        self.made()
        self.made(hands=[[0, 1, 2]])
        self.made(hands=[[2, 1, 0]])
        self.made(hands=[[1], [0], [2]])
        self.made(hands=[[1], [], [0, 2], []])
        self.made(hands=[[], [], [], [2, 0, 1]])

    def test_no_pieces(self):
        self.made(job=EMPTY, pieces=[], hands=[[]], waits=[], slots={}, wanted=[])
        self.made(job=EMPTY, pieces=[], hands=[[], [], [], []], waits=[], slots={}, wanted=[])
        self.made(pieces=[], hands=[[], []], waits=[])

    def test_waits(self):
        self.made(waits=[])
        self.made(waits=[(0, 1), (0, 1), (2, 2), (1, 0), (0, 1)])

    def test_wanted(self):
        self.made(wanted=[])
        self.made(wanted=[C, A, D, B])
        self.made(wanted=[A])

    def test_pieces_that_clash_are_papers(self):
        self.made(pieces=[[A], [A], [A, A, D]])
        self.made(pieces=[[C, A], [D], [B]])

    def test_slots_at_their_borders(self):
        self.made(slots={A: 0, B: 0, C: 0, D: 0})
        self.made(slots={D: 119, C: 118, B: 119, A: 0})

    def test_120_pieces(self):
        spots = FORTY.all_spots()
        big = {"job": FORTY, "waits": [], "slots": {spot: 0 for spot in spots}, "wanted": spots}
        pieces = [[spot] for spot in spots]
        self.made(pieces=pieces, hands=[list(range(120))], **big)
        self.made(pieces=pieces[:119] + [spots], hands=[[], list(range(120))], **big)
        self.refused("pieces", pieces=pieces + [[spots[0]]], hands=[list(range(121))], **big)
        self.made(pieces=[[A]] * 120, hands=[list(range(120))], waits=[(119, 119)])
        self.refused("pieces", pieces=[[A]] * 121, hands=[list(range(121))], waits=[])

    def test_400_waits(self):
        self.made(waits=[(0, 1)] * 400)
        self.refused("waits", waits=[(0, 1)] * 401)
        self.refused("waits", waits=[(0, 1)] * 400 + [(0, 2)])

    def test_pieces_of_anything(self):
        for thing in odd_things() + [0, 1, ([A, C], [B], [D]), {0: [A, C], 1: [B], 2: [D]}, "abc"]:
            if not is_same(thing, []):
                self.refused("pieces", pieces=thing)
        for thing in odd_things() + [(A, C), {A: 0}, A, 0, "A"]:
            self.refused("pieces", pieces=[[A, C], [B], thing])
            self.refused("pieces", pieces=[thing, [B], [D]])
        for thing in odd_things() + ODD_SPOTS:
            self.refused("pieces", pieces=[[A, C], [B], [D, thing]])
            self.refused("pieces", pieces=[[thing, C], [B], [D]])
        self.refused("pieces", pieces=[[A, C], [], [D]])
        self.refused("pieces", job=EMPTY, pieces=[[A]])
        self.refused("pieces", job=EMPTY, pieces=[[]])

    def test_hands_of_anything(self):
        for thing in odd_things() + [
            0, 1, ([0, 2], [1]), {0: [0, 2], 1: [1]}, "012", [0, 1, 2], [[0, 1, 2], [], [], [], []], [[0], [1], [2], [], []],
            [[0], [1], [2], [0], []],
        ]:
            self.refused("hands", hands=thing)
        for thing in odd_things() + [(1,), 1, {1: 1}, "1", [1, 1], [1, 0], [1, 2]]:
            if not is_same(thing, [1]):
                self.refused("hands", hands=[[0, 2], thing])
        for thing in odd_things() + [-1, 3, 0, 2, 10 ** 39, (1,), "1", A]:
            self.refused("hands", hands=[[0, 2], [thing]])
            self.refused("hands", hands=[[thing, 0, 2]])
            self.refused("hands", hands=[[0, 2], [1, thing]])
        self.refused("hands", hands=[[False, 2], [True]])
        self.refused("hands", hands=[[0, 1]])
        self.refused("hands", hands=[[0, 1, 2, 2]])
        self.refused("hands", hands=[[0, 1, 2], [0, 1, 2]])
        self.refused("hands", hands=[[], []])
        self.refused("hands", pieces=[], hands=[])
        self.refused("hands", pieces=[], hands=[[0]])
        self.refused("hands", pieces=[], hands=[[], [], [], [], []])

    def test_waits_of_anything(self):
        for thing in odd_things() + [0, ((0, 1),), (0, 1), {(0, 1): True}, "01", {0: 1}]:
            if not is_same(thing, []):
                self.refused("waits", waits=thing)
        for thing in odd_things() + [
            [0, 1], (0,), (0, 1, 2), 0, "01", (0, 3), (3, 0), (-1, 0), (0, -1), (0, True), (False, 1), (0, None), ("0", 1),
            (0, 10 ** 39), ((0, 1), (1, 2)), (0, [1]), (Odd(), 0), (0, Odd()), A,
        ]:
            self.refused("waits", waits=[thing])
            self.refused("waits", waits=[(0, 1), thing, (1, 0)])
        self.refused("waits", pieces=[], hands=[[]], waits=[(0, 0)])

    def test_slots_of_anything(self):
        fine = {A: 0, B: 1, C: 119, D: 0}
        for thing in odd_things() + [0, [(A, 0), (B, 1), (C, 2), (D, 3)], [0, 1, 2, 3], {0: 0, 1: 1, 2: 2, 3: 3}, "0123"]:
            self.refused("slots", slots=thing)
        for thing in odd_things() + [120, 121, -1, 10 ** 39, -10 ** 39, "0", (0,), [0]]:
            self.refused("slots", slots={**fine, B: thing})
            self.refused("slots", slots={**fine, D: thing})
        for spot in fine:
            self.refused("slots", slots={other: 0 for other in fine if other != spot})
        strange = [thing for thing in odd_things() + NO_SPOTS if hashable(thing)]
        for thing in strange:
            without = {spot: 0 for spot in [B, C, D]}
            self.refused("slots", slots={**without, thing: 0})
            if thing not in fine:
                self.refused("slots", slots={**fine, thing: 0})
        self.refused("slots", slots={(True, (0,)): 0, B: 0, C: 0, D: 0})
        self.refused("slots", slots={A: 0, (1, (True,)): 0, C: 0, D: 0})
        empty = {"job": EMPTY, "pieces": [], "hands": [[]], "waits": [], "wanted": []}
        for thing in [{A: 0}, {0: 0}, [], None, ()]:
            self.refused("slots", slots=thing, **empty)

    def test_wanted_of_anything(self):
        for thing in odd_things() + [0, (A,), (A, B), {A: True}, A, "A", {0: A}]:
            if not is_same(thing, []):
                self.refused("wanted", wanted=thing)
        for thing in odd_things() + ODD_SPOTS:
            self.refused("wanted", wanted=[thing])
            self.refused("wanted", wanted=[A, B, thing])
        for twice in [[A, A], [A, B, A], [D, C, B, A, D]]:
            self.refused("wanted", wanted=twice)
        self.refused("wanted", job=EMPTY, pieces=[], hands=[[]], waits=[], slots={}, wanted=[A])

    def test_the_first_that_is_due(self):
        words = ["pieces", "hands", "waits", "slots", "wanted"]
        for wrong in [None, True, "text", 7, Odd(), (), [Odd()]]:
            for first in range(5):
                for last in range(first, 5):
                    self.refused(words[first], **{word: wrong for word in words[first:last + 1]})
                self.refused(words[first], **{word: wrong for word in [words[first], words[4]]})

    def test_values_are_the_papers_own(self):
        handed = given()
        before = given()
        paper = Paper(*handed)
        self.assertTrue(is_same(handed[1:], before[1:]))
        pieces, hands, waits, slots, wanted = handed[1:]
        self.assertIsNot(paper.pieces, pieces)
        self.assertIsNot(paper.slots, slots)
        pieces[0].append(B)
        pieces.append(None)
        hands[0].clear()
        hands.append(None)
        waits.append(None)
        slots[A] = 7
        slots["more"] = 1
        wanted.clear()
        values = [paper.pieces, paper.hands, paper.waits, paper.slots, paper.wanted]
        self.assertTrue(is_same(values, before[1:]))

    def test_what_is_refused_stays(self):
        handed = given(wanted=[A, A])
        refused(self, NoPaper, "wanted", Paper, *handed)
        self.assertTrue(is_same(handed[1:], given(wanted=[A, A])[1:]))


if __name__ == "__main__":
    unittest.main()

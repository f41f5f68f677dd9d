"""What several tests need."""

import copy

from slanttiles import errors
from slanttiles.jobs import Job
from slanttiles.papers import Paper
from slanttiles.piece_pairs import piece_pairs
from slanttiles.places import Grid
from slanttiles.term_texts import read_term

UNDER = ["NoGrid", "NoTerm", "NoJob", "NoPaper", "NoText", "TooGreat"]


class Odd:
    """A thing that can't be compared, hashed, measured or tested."""

    __hash__ = None

    def fail(self, *others):
        raise AssertionError("a thing of unknown kind was looked into")

    __eq__ = __ne__ = __lt__ = __le__ = __gt__ = __ge__ = fail
    __len__ = __bool__ = __iter__ = __getitem__ = __index__ = __int__ = __add__ = __mod__ = fail


def odd_things():
    """Things of many kinds, none a whole number, a tuple or a list that would do."""
    return [
        True, False, None, "", "1", "fixed", "mirror", [], [1], ["mirror"], {}, {1: 2},
        (), ((),), (None,), (True,), ([],), ({},), {1}, frozenset([1]), b"1", 1j,
        range(3), len, int, Odd(), (Odd(),), (Odd(), Odd()), [Odd()], lambda: 1, object(),
    ]


def refused(case, kind, at, call, *given):
    """Check that a call is refused with just this class and this value."""
    with case.assertRaises(ValueError) as caught:
        call(*given)
    error = caught.exception
    case.assertIsInstance(error, errors.TileError)
    like = [name for name in UNDER if isinstance(error, getattr(errors, name))]
    case.assertEqual(like, [kind.__name__], given)
    case.assertEqual((type(error.at), error.at), (type(at), at), given)


def is_same(one, other):
    """Tell whether two things are equal and of the same kinds throughout (True is not 1)."""
    if type(one) is not type(other):
        return False
    if isinstance(one, (list, tuple)):
        return len(one) == len(other) and all(is_same(a, b) for a, b in zip(one, other))
    if isinstance(one, dict):
        return is_same(sorted(one.items()), sorted(other.items()))
    return one == other


def made(sizes, rims, text, modulus, rounds, first):
    """A job, its term written as a text."""
    return Job(Grid(sizes, rims), read_term(text), modulus, rounds, first)


def plain_job(sizes, rims, text, rounds):
    """A job whose first worths are all 1."""
    grid = Grid(sizes, rims)
    term = read_term(text)
    deep = max([back for back, steps in term.takes()], default=1)
    return Job(grid, term, 97, rounds, [[1] * grid.places_many() for _ in range(deep)])


class Dice:
    """Numbers that look thrown and are the same in every run."""

    def __init__(self, seed):
        self.at = seed

    def below(self, many):
        self.at = (self.at * 6364136223846793005 + 1442695040888963407) % 2 ** 64
        return (self.at >> 33) % many

    def one_of(self, things):
        return things[self.below(len(things))]

    def mixed(self, things):
        left, row = list(things), []
        while left:
            row.append(left.pop(self.below(len(left))))
        return row


RIMS = [("round",), ("mirror",), ("fixed", 5)]
SIZES = [[1], [2], [3], [5], [9], [2, 2], [3, 2], [1, 4], [2, 1, 2], [2, 2, 2]]


def thrown_job(dice, most_spots=24):
    """A job with any rims, takes and rounds, of not too many spots."""
    sizes = dice.one_of(SIZES)
    rims = [dice.one_of(RIMS) for _ in sizes]
    text = "1"
    for _ in range(dice.below(5)):
        steps = " ".join(str(dice.one_of([-2, -1, -1, 0, 0, 0, 1, 1, 3])) for _ in sizes)
        text = f"({text} + [{1 + dice.below(3)} {steps}])"
    places = Grid(sizes, rims).places_many()
    return plain_job(sizes, rims, text, dice.below(min(12, most_spots // places) + 1))


def thrown_paper(dice, job, slots_many):
    """A paper of a job, its pieces mostly, but not always, in an order that goes right."""
    row = job.all_spots()
    for _ in range(dice.below(3)):
        at = dice.below(len(row)) if row else 0
        row = row[:at] + row[at + 1:] + row[at:at + 1]
    pieces = []
    while row:
        many = 1 + dice.below(3)
        pieces.append(row[:many])
        row = row[many:]
    hands = [[] for _ in range(1 + dice.below(3))]
    for number in range(len(pieces)):
        dice.one_of(hands).append(number)
    lacks = dice.one_of([0, 0, 10, 50])
    waits = [pair for pair in piece_pairs(job, pieces) if dice.below(100) >= lacks]
    slots = {spot: dice.below(slots_many) for spot in dice.mixed(job.all_spots())}
    wanted = [spot for spot in dice.mixed(job.all_spots()) if dice.below(4) == 0]
    return Paper(job, pieces, hands, dice.mixed(waits + waits[:1]), slots, wanted)


def own_slots(job):
    """A slot of its own for each spot."""
    return {spot: slot for slot, spot in enumerate(job.all_spots())}


def changed_paper(paper, **values):
    """The same paper with other values."""
    names = ["pieces", "hands", "waits", "slots", "wanted"]
    return Paper(paper.job, *[values.get(name, getattr(paper, name)) for name in names])


def paper_values(paper):
    """Copies of the values of a paper, to see that nothing changes them."""
    return copy.deepcopy([paper.pieces, paper.hands, paper.waits, paper.slots, paper.wanted])

"""Stage 2: terms."""

import unittest

from helper import is_same, refused
from slanttiles.errors import NoTerm
from slanttiles.terms import (
    Added, Chosen, Least, Lessened, Most, Multiplied, Number, Rest, Take, Term, check_term, lines_of,
)

WORTHS = {(1, (0,)): 5, (1, (-1,)): -8, (2, (3,)): 0, (3, (9,)): 11}


def chain(depth):
    """A term of this depth."""
    term = Number(1)
    for _ in range(depth - 1):
        term = Added(term, Number(2))
    return term


def bush(parts):
    """A flat term of so many parts."""
    if parts == 1:
        return Number(1)
    if parts == 2:
        return Rest(Number(1), 5)
    half = (parts - 1) // 2
    return Multiplied(bush(half), bush(parts - 1 - half))


def all_of(terms):
    """The sum of terms, as flat as it goes."""
    if len(terms) == 1:
        return terms[0]
    half = len(terms) // 2
    return Added(all_of(terms[:half]), all_of(terms[half:]))


class Values(unittest.TestCase):
    def valued(self, value, term, worths=WORTHS):
        known = term.takes()

        def see(take):
            self.assertIn(take, known)
            self.assertIs(type(take), tuple)
            return worths[take]

        self.assertTrue(is_same(term.value_by(see), value), term.shown())

    def test_numbers_and_takes(self):
        for number in [0, 1, -1, 10 ** 12, -10 ** 12]:
            self.valued(number, Number(number))
        for take, worth in WORTHS.items():
            self.valued(worth, Take(*take))

    def test_pairs(self):
        for a in [-7, 0, 3, 10 ** 12]:
            for b in [-2, 0, 3, 9]:
                one, other = Number(a), Number(b)
                self.valued(a + b, Added(one, other))
                self.valued(a - b, Lessened(one, other))
                self.valued(a * b, Multiplied(one, other))
                self.valued(a if a < b else b, Least(one, other))
                self.valued(a if a > b else b, Most(one, other))

    def test_rests_are_from_0_on(self):
        for one, by, rest in [
            (7, 3, 1), (-7, 3, 2), (-1, 10 ** 9, 10 ** 9 - 1), (6, 3, 0), (-6, 3, 0), (5, 1, 0), (-5, 1, 0), (2, 9, 2),
        ]:
            self.valued(rest, Rest(Number(one), by))

    def test_choices(self):
        for test, value in [(1, 10), (10 ** 12, 10), (0, 20), (-1, 20), (-10 ** 12, 20)]:
            self.valued(value, Chosen(Number(test), Number(10), Number(20)))

    def test_nested_ones(self):
        here, left, old = Take(1, (0,)), Take(1, (-1,)), Take(3, (9,))
        self.valued(5 * -8 - 11, Lessened(Multiplied(here, left), old))
        self.valued(2, Rest(Added(left, Number(0)), 10))
        self.valued(-8, Least(Most(here, left), Chosen(Take(2, (3,)), old, left)))
        self.valued(11, Chosen(Lessened(here, left), old, left))
        self.valued(4, Rest(Lessened(Number(0), Rest(old, 7)), 8))
        self.valued(-13, Added(left, Lessened(left, Number(-3))), {(1, (-1,)): -8})

    def test_great_numbers(self):
        term = Number(10 ** 12)
        for power in [2, 4, 8, 16, 32]:
            term = Multiplied(term, term)
            self.valued(10 ** (12 * power), term)

    def test_only_takes_of_the_term_are_seen(self):
        seen = []

        def see(take):
            seen.append(take)
            return 1

        term = Chosen(Take(1, (0, 1)), Take(2, (3, 4)), Take(3, (-9, 9)))
        self.assertEqual(term.value_by(see), 1)
        self.assertTrue(set(seen) <= set(term.takes()))
        self.assertTrue(all(type(take) is tuple for take in seen))
        seen.clear()
        Rest(Added(Number(1), Number(2)), 3).value_by(see)
        self.assertEqual(seen, [])


class Told(unittest.TestCase):
    def test_kinds_stand_under_term(self):
        number = Number(4)
        for term in [
            number, Take(1, (0,)), Added(number, number), Lessened(number, number), Multiplied(number, number),
            Least(number, number), Most(number, number), Rest(number, 2), Chosen(number, number, number),
        ]:
            self.assertIsInstance(term, Term)
        self.assertIsInstance(Term(), Term)

    def test_values(self):
        one, other, test = Number(1), Number(2), Number(3)
        self.assertEqual(one.value, 1)
        take = Take(2, (0, -1))
        self.assertEqual((take.back, take.steps), (2, (0, -1)))
        for kind in [Added, Lessened, Multiplied, Least, Most]:
            term = kind(one, other)
            self.assertIs(term.one, one)
            self.assertIs(term.other, other)
        rest = Rest(one, 9)
        self.assertIs(rest.one, one)
        self.assertEqual(rest.by, 9)
        chosen = Chosen(test, one, other)
        self.assertIs(chosen.test, test)
        self.assertIs(chosen.one, one)
        self.assertIs(chosen.other, other)

    def test_takes_are_unlike_and_sorted(self):
        self.assertEqual(Number(3).takes(), [])
        self.assertEqual(Take(2, (1, 0)).takes(), [(2, (1, 0))])
        self.assertEqual(Rest(Added(Number(1), Number(2)), 3).takes(), [])
        term = Chosen(
            Added(Take(2, (0,)), Take(1, (5,))), Multiplied(Take(1, (-5,)), Take(2, (0,))),
            Rest(Least(Take(1, (5,)), Most(Take(3, (-9,)), Lessened(Take(1, (0,)), Take(1, (0,))))), 4),
        )
        self.assertTrue(is_same(term.takes(), [(1, (-5,)), (1, (0,)), (1, (5,)), (2, (0,)), (3, (-9,))]))

    def test_told_takes_are_the_askers_own(self):
        for term in [Number(1), Take(1, (0,)), Added(Take(1, (0,)), Take(1, (1,))), Rest(Take(1, (0,)), 2)]:
            before = list(term.takes())
            term.takes().append("more")
            term.takes().clear()
            self.assertEqual(term.takes(), before)

    def test_depth(self):
        self.assertEqual(Number(1).depth(), 1)
        self.assertEqual(Take(1, (0,)).depth(), 1)
        for depth in range(1, 15):
            self.assertEqual(chain(depth).depth(), depth)
        deep, flat = chain(5), Number(1)
        for kind in [Added, Lessened, Multiplied, Least, Most]:
            self.assertEqual(kind(deep, flat).depth(), 6)
            self.assertEqual(kind(flat, deep).depth(), 6)
            self.assertEqual(kind(flat, flat).depth(), 2)
        self.assertEqual(Rest(deep, 2).depth(), 6)
        self.assertEqual(Chosen(deep, flat, flat).depth(), 6)
        self.assertEqual(Chosen(flat, deep, flat).depth(), 6)
        self.assertEqual(Chosen(flat, flat, deep).depth(), 6)

    def test_parts(self):
        self.assertEqual(Number(1).parts(), 1)
        self.assertEqual(Take(1, (0, 0, 0)).parts(), 1)
        self.assertEqual(Rest(Number(1), 2).parts(), 2)
        self.assertEqual(Chosen(Number(1), Number(1), Number(1)).parts(), 4)
        for kind in [Added, Lessened, Multiplied, Least, Most]:
            self.assertEqual(kind(Number(1), Rest(Number(2), 3)).parts(), 4)
        same = Added(Number(1), Number(1))
        self.assertEqual(Added(same, same).parts(), 7)
        for parts in range(1, 70):
            self.assertEqual(bush(parts).parts(), parts)

    def test_lines_of(self):
        self.assertIsNone(lines_of(Number(1)))
        self.assertIsNone(lines_of(Rest(Added(Number(1), Number(2)), 3)))
        for steps in [(0,), (1, 2), (-9, 9, 0)]:
            self.assertEqual(lines_of(Take(1, steps)), len(steps))
            self.assertEqual(lines_of(Most(Take(3, steps), Take(1, steps))), len(steps))
        one, two, three = Take(1, (0,)), Take(1, (0, 0)), Take(2, (0, 0, 0))
        for term in [Added(one, two), Added(two, one), Chosen(three, three, one), Rest(Least(two, three), 4)]:
            refused(self, NoTerm, "lines", lines_of, term)

    def test_shown(self):
        here, there = Take(1, (0,)), Take(3, (-9, 0, 9))
        for term, text in [
            (Number(0), "0"), (Number(-1), "-1"), (Number(10 ** 12), "1000000000000"),
            (Number(-10 ** 12), "-1000000000000"), (here, "[1 0]"), (there, "[3 -9 0 9]"), (Take(2, (4, -5)), "[2 4 -5]"),
            (Added(Number(1), Number(-2)), "(1 + -2)"), (Lessened(Number(-1), here), "(-1 - [1 0])"),
            (Multiplied(here, Number(2)), "([1 0] * 2)"), (Least(here, there), "([1 0] min [3 -9 0 9])"),
            (Most(there, here), "([3 -9 0 9] max [1 0])"), (Rest(here, 10 ** 9), "([1 0] rest 1000000000)"),
            (Chosen(here, Number(1), Number(0)), "([1 0] ? 1 : 0)"),
            (Rest(Chosen(Lessened(Number(3), here), Least(here, Number(7)), Rest(here, 2)), 5),
             "(((3 - [1 0]) ? ([1 0] min 7) : ([1 0] rest 2)) rest 5)"),
        ]:
            self.assertEqual(term.shown(), text)


class LookedOver(unittest.TestCase):
    def let_by(self, term):
        self.assertIsNone(check_term(term))

    def refused(self, at, term):
        refused(self, NoTerm, at, check_term, term)

    def test_numbers(self):
        for number in [-10 ** 12, -1, 0, 1, 10 ** 12]:
            self.let_by(Number(number))
        for number in [-10 ** 12 - 1, 10 ** 12 + 1, 10 ** 39, -10 ** 39, True, False]:
            self.refused("number", Number(number))
            self.refused("number", Added(Number(1), Number(number)))

    def test_divisors(self):
        for by in [1, 2, 10 ** 9]:
            self.let_by(Rest(Number(5), by))
        for by in [0, -1, 10 ** 9 + 1, -10 ** 9, 10 ** 39, True, False]:
            self.refused("by", Rest(Number(5), by))

    def test_backs(self):
        for back in [1, 2, 3]:
            self.let_by(Take(back, (0,)))
        for back in [0, 4, -1, 10 ** 39, True, False]:
            self.refused("back", Take(back, (0,)))

    def test_steps(self):
        for steps in [(-9,), (9,), (0, 0), (9, -9), (0, 0, 0), (-9, 9, -9)]:
            self.let_by(Take(1, steps))
        for steps in [
            (), (0, 0, 0, 0), (-10,), (10,), (0, 10), (-10, 0), (0, 0, 10), (10 ** 39,), (True,), (0, False),
            (True, 0, 0), True, False,
        ]:
            self.refused("steps", Take(1, steps))

    def test_lines(self):
        self.refused("lines", Added(Take(1, (0,)), Take(1, (0, 0))))
        self.let_by(Added(Take(1, (0, 1)), Take(1, (0, 0))))

    def test_depth(self):
        for depth in range(1, 13):
            self.let_by(chain(depth))
        for depth in [13, 14, 20]:
            self.refused("depth", chain(depth))

    def test_parts(self):
        for parts in [1, 2, 59, 60]:
            self.let_by(bush(parts))
        for parts in [61, 62, 80]:
            self.refused("parts", bush(parts))

    def test_takes(self):
        takes = [Take(1, (step,)) for step in range(-9, 10)]
        self.let_by(all_of(takes[:6]))
        self.let_by(all_of(takes[:6] + takes[:6]))
        self.refused("takes", all_of(takes[:7]))
        self.refused("takes", all_of(takes))
        backs = [Take(back, (step, 0)) for back in [1, 2, 3] for step in [0, 1]]
        self.let_by(all_of(backs))
        self.refused("takes", all_of(backs + [Take(1, (0, 1))]))

    def test_the_first_part_from_left_to_right_is_told(self):
        number, back, steps = Number(10 ** 13), Take(4, (0,)), Take(1, (10,))
        fine = Number(1)
        for kind in [Added, Lessened, Multiplied, Least, Most]:
            self.refused("number", kind(number, back))
            self.refused("back", kind(back, number))
            self.refused("steps", kind(fine, Added(steps, number)))
        self.refused("back", Chosen(back, number, steps))
        self.refused("number", Chosen(fine, number, steps))
        self.refused("steps", Chosen(fine, fine, steps))
        self.refused("steps", Chosen(fine, Added(fine, steps), number))
        self.refused("back", Take(0, ()))
        self.refused("back", Take(True, (True,)))

    def test_what_stands_in_a_rest_goes_ahead_of_its_divisor(self):
        self.refused("number", Rest(Number(10 ** 13), 0))
        self.refused("steps", Rest(Added(Number(1), Take(1, ())), True))
        self.refused("by", Rest(Rest(Number(1), 0), 5))
        self.refused("by", Added(Rest(Number(1), 0), Number(True)))
        self.refused("number", Added(Number(True), Rest(Number(1), 0)))

    def test_ranges_are_due_first(self):
        unlike = Added(Take(1, (0,)), Take(1, (0, 0)))
        self.refused("number", Added(unlike, Number(10 ** 13)))
        self.refused("by", Rest(chain(13), 0))
        self.refused("back", Added(bush(61), Take(0, (0,))))
        self.refused("steps", all_of([Take(1, (step,)) for step in range(0, 11)]))

    def test_then_lines_depth_parts_takes(self):
        unlike = Added(Take(1, (0,)), Take(1, (0, 0)))
        takes = all_of([Take(1, (step,)) for step in range(7)])
        self.refused("lines", Added(chain(13), unlike))
        self.refused("lines", Added(bush(61), unlike))
        self.refused("lines", Added(takes, Take(1, (0, 0))))
        self.refused("depth", Added(chain(12), bush(61)))
        self.refused("depth", Added(chain(12), takes))
        self.refused("parts", Added(bush(61), takes))

    def test_a_term_that_is_looked_over_stays(self):
        term = Rest(Added(Take(1, (0,)), Number(4)), 0)
        self.refused("by", term)
        self.assertEqual(term.shown(), "(([1 0] + 4) rest 0)")


if __name__ == "__main__":
    unittest.main()

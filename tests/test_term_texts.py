"""Stage 2: texts of terms."""

import unittest

from helper import odd_things, refused
from slanttiles.errors import NoTerm, NoText
from slanttiles.term_texts import read_term
from slanttiles.terms import (
    Added, Chosen, Least, Lessened, Most, Multiplied, Number, Rest, Take,
)

WRITTEN = [
    "0", "7", "-1", "1000000000000", "-1000000000000", "[1 0]", "[2 -9 9]", "[3 0 -1 5]",
    "(1 + 2)", "(-1 - -2)", "([1 0] * 3)", "(4 min 10)", "(4 max [2 1])", "([1 -1] rest 97)", "([1 0] ? 1 : -1)",
    "((1 + [1 0]) - (2 * 3))", "(((1 min 2) max 3) rest 1000000000)", "((1 ? 2 : 3) ? (4 + 5) : (6 - [1 1 1]))",
]
SIGNS = "019-+*?:()[] minaxrest\nA.%"


class Slow:
    """Tells by trying every way how far a text goes right, and whether it is whole."""

    def __init__(self, text):
        self.text = text
        self.far = 0
        self.whole = len(text) in self.term(0, 0)

    def one(self, at, signs):
        """The ends of one sign out of several."""
        if at < len(self.text) and self.text[at] in signs:
            self.far = max(self.far, at + 1)
            return [at + 1]
        return []

    def word(self, at, word):
        ends = [at]
        for sign in word:
            ends = [end for begin in ends for end in self.one(begin, sign)]
        return ends

    def figures(self, at):
        ends = self.one(at, "123456789")
        every = list(ends)
        for _ in range(12):
            ends = [end for begin in ends for end in self.one(begin, "0123456789")]
            every += ends
        return every

    def unsigned(self, at):
        return self.one(at, "0") + self.figures(at)

    def number(self, at):
        return self.unsigned(at) + [end for begin in self.one(at, "-") for end in self.figures(begin)]

    def row(self, at, *forms):
        ends = {at}
        for form in forms:
            ends = {end for begin in ends for end in (self.word(begin, form) if isinstance(form, str) else form(begin))}
        return list(ends)

    def term(self, at, within):
        ends = self.number(at)
        for many in [1, 2, 3]:
            ends += self.row(at, "[", self.number, *[" ", self.number] * many, "]")
        if within < 12:
            def inner(begin):
                return self.term(begin, within + 1)
            begun = self.row(at, "(", inner, " ")
            for begin in begun:
                for sign in ["+", "-", "*", "min", "max"]:
                    ends += self.row(begin, sign, " ", inner, ")")
                ends += self.row(begin, "rest", " ", self.unsigned, ")")
                ends += self.row(begin, "?", " ", inner, " : ", inner, ")")
        return ends


def nested(many):
    """A text with so many round brackets within one another."""
    return "(" * many + "1" + " + 2)" * many


class ReadingTerms(unittest.TestCase):
    def refused(self, at, text):
        refused(self, NoText, at, read_term, text)

    def test_each_kind_is_read(self):
        self.assertEqual(read_term("-12").value, -12)
        self.assertIsInstance(read_term("0"), Number)
        take = read_term("[3 -9 0 9]")
        self.assertIsInstance(take, Take)
        self.assertEqual((take.back, take.steps), (3, (-9, 0, 9)))
        for sign, kind in [("+", Added), ("-", Lessened), ("*", Multiplied), ("min", Least), ("max", Most)]:
            term = read_term(f"(5 {sign} -6)")
            self.assertIs(type(term), kind)
            self.assertEqual((term.one.value, term.other.value), (5, -6))
        rest = read_term("(8 rest 3)")
        self.assertIs(type(rest), Rest)
        self.assertEqual((rest.one.value, rest.by), (8, 3))
        chosen = read_term("(1 ? 2 : 3)")
        self.assertIs(type(chosen), Chosen)
        self.assertEqual((chosen.test.value, chosen.one.value, chosen.other.value), (1, 2, 3))

    def test_what_is_written_is_read_and_written_the_same(self):
        for text in WRITTEN + [nested(11)]:
            self.assertEqual(read_term(text).shown(), text)

    def test_values_of_what_is_read(self):
        self.assertEqual(read_term("((7 - 10) * (2 + [1 0]))").value_by(lambda take: 4), -18)
        self.assertEqual(read_term("((7 - 10) rest 5)").value_by(None), 2)

    def test_cut_texts_tell_their_length(self):
        for text in WRITTEN:
            for end in range(len(text)):
                cut = text[:end]
                slow = Slow(cut)
                self.assertEqual(slow.far, end)
                if not slow.whole:
                    self.refused(end, cut)
        self.refused(0, "")
        self.refused(1, "-")
        self.refused(6, "(1 + 2")
        self.refused(4, "(1 m")
        self.refused(2, "[1")

    def test_changed_texts_tell_how_far_they_go(self):
        for text in WRITTEN:
            changed = []
            for at in range(len(text) + 1):
                changed.append(text[:at] + text[at + 1:])
                changed.append(text[:at] + text[at:at + 1] * 2 + text[at + 1:])
                for sign in SIGNS:
                    changed += [text[:at] + sign + text[at:], text[:at] + sign + text[at + 1:]]
            for other in changed:
                self.seen_as_slowly(other)

    def seen_as_slowly(self, text):
        slow = Slow(text)
        if not slow.whole:
            self.refused(slow.far, text)
            return
        try:
            self.assertEqual(read_term(text).shown(), text)
        except NoTerm:
            pass

    def test_a_sign_too_much(self):
        for at, text in [
            (1, "1 "), (0, " 1"), (0, "+1"), (1, "--1"), (1, "1)"), (7, "(1 + 2))"), (5, "[1 0]]"), (1, "1\n"), (0, "\n1"),
            (1, "[[1 0]"), (3, "[1 "), (5, "[1 0 ,"), (1, "( 1 + 2)"), (6, "(1 + 2 )"), (1, "()"), (2, "(1)"),
            (5, "(1 + + 2)"), (1, "[ 1 0]"), (4, "[1 0,"), (0, "a"), (0, "]"), (0, ")"), (3, "(1 % 2)"),
        ]:
            self.refused(at, text)

    def test_a_blank_twice_or_none(self):
        for at, text in [
            (3, "(1  + 2)"), (5, "(1 +  2)"), (2, "(1+ 2)"), (4, "(1 +2)"), (3, "[1  0]"), (4, "(1 -1)"),
            (6, "(1 ? 2: 3)"), (8, "(1 ? 2 :3)"), (9, "(1 ? 2 :  3)"), (8, "(1 rest  2)"), (6, "(1 min2)"), (5, "[1 0  1]"),
        ]:
            self.refused(at, text)

    def test_a_0_ahead(self):
        for at, text in [
            (1, "01"), (1, "00"), (1, "-0"), (1, "-01"), (2, "[01 0]"), (4, "[1 00]"), (4, "[1 -0]"), (6, "[1 0 -0]"),
            (9, "(1 rest 05)"), (9, "(1 rest 00)"), (2, "[-0 1]"),
        ]:
            self.refused(at, text)

    def test_signs_of_divisors(self):
        self.refused(8, "(1 rest -1)")
        self.refused(8, "(1 rest (1 + 2))")
        self.refused(8, "(1 rest [1 0])")
        refused(self, NoTerm, "by", read_term, "(1 rest 0)")

    def test_thirteen_and_fourteen_figures(self):
        self.assertEqual(read_term("1000000000000").value, 10 ** 12)
        thirteen = "9" * 13
        refused(self, NoTerm, "number", read_term, "1000000000001")
        refused(self, NoTerm, "number", read_term, "-1000000000001")
        refused(self, NoTerm, "number", read_term, thirteen)
        refused(self, NoTerm, "back", read_term, f"[{thirteen} 0]")
        refused(self, NoTerm, "back", read_term, f"[-{thirteen} 0]")
        refused(self, NoTerm, "steps", read_term, f"[1 {thirteen}]")
        refused(self, NoTerm, "steps", read_term, f"[1 0 -{thirteen}]")
        refused(self, NoTerm, "by", read_term, f"(1 rest {thirteen})")
        self.refused(13, thirteen + "9")
        self.refused(14, "-" + thirteen + "0")
        self.refused(14, f"[{thirteen}9 0]")
        self.refused(15, f"[-{thirteen}9 0]")
        self.refused(16, f"[1 {thirteen}9]")
        self.refused(21, f"(1 rest {thirteen}9)")
        self.refused(14, f"({thirteen}9 + 1)")

    def test_takes_of_none_to_four_steps(self):
        self.refused(2, "[1]")
        self.refused(1, "[]")
        for text in ["[1 2]", "[1 2 3]", "[1 2 3 4]"]:
            self.assertEqual(read_term(text).shown(), text)
        self.refused(8, "[1 2 3 4 5]")
        self.refused(8, "[1 2 3 4 ")
        self.refused(3, "[1 ]")

    def test_round_brackets_within_one_another(self):
        self.assertEqual(read_term(nested(11)).depth(), 12)
        refused(self, NoTerm, "depth", read_term, nested(12))
        self.refused(12, nested(13))
        self.refused(12, "(" * 13)
        self.refused(12, "(" * 12)
        self.refused(17, "(" * 12 + "1 + 2(")
        right = "(1 + " * 12
        refused(self, NoTerm, "depth", read_term, right + "2" + ")" * 12)
        self.refused(60, right + "(1 + 2)" + ")" * 12)
        apart = "(" * 11 + "(1 + 2) ? (3 + 4) : (5 + 6))"
        self.assertEqual(Slow(apart).far, len(apart))
        self.refused(len(apart), apart)

    def test_something_behind_the_end(self):
        for text in ["1", "[1 0]", "(1 + 2)"]:
            for behind in [" ", "\n", ")", "x", "(", "-"]:
                self.refused(len(text), text + behind)
        self.refused(7, "(1 + 2) + 3")

    def test_words_and_their_beginnings(self):
        for at, text in [
            (4, "(1 mox 2)"), (5, "(1 mix 2)"), (5, "(1 man 2)"), (6, "(1 resp 2)"), (3, "(1 Min 2)"), (3, "(1 / 2)"),
            (6, "(1 min)"), (7, "(1 rest)"), (6, "(1 minx 2)"), (4, "(1 ++ 2)"), (7, "(1 ? 2 ; 3)"), (6, "(1 ? 2)"),
            (6, "(1 + 2 : 3)"), (3, "(1 : 2)"),
        ]:
            self.refused(at, text)

    def test_what_is_no_text(self):
        for thing in odd_things() + [1, 0, ["1"], ("1",), b"1"]:
            if not isinstance(thing, str):
                self.refused(None, thing)

    def test_what_is_of_the_form_and_out_of_its_range(self):
        for at, text in [
            ("back", "[0 1]"), ("back", "[4 1]"), ("back", "[-1 1]"), ("steps", "[1 10]"), ("steps", "[1 0 -10]"),
            ("by", "(1 rest 0)"), ("by", "(1 rest 1000000001)"), ("lines", "([1 0] + [1 0 0])"),
            ("back", "([4 10] + 9999999999999)"), ("number", "(9999999999999 rest 0)"),
            ("takes", "(((([1 0] + [1 1]) + [1 2]) + ([1 3] + [1 4])) + ([1 5] + [1 6]))"),
        ]:
            refused(self, NoTerm, at, read_term, text)
        row = "1"
        for _ in range(5):
            row = f"({row} + {row})"
        refused(self, NoTerm, "parts", read_term, row)


if __name__ == "__main__":
    unittest.main()

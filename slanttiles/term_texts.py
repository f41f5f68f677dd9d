"""Reading terms from their texts."""

from slanttiles.errors import NoText
from slanttiles.terms import Added, Chosen, Least, Lessened, Most, Multiplied, Number, Rest, Take, check_term

FIGURES = "0123456789"
MOST_FIGURES = 13
MOST_STEPS = 3
MOST_WITHIN = 12
WORDS = ("+", "-", "*", "min", "max", "rest", "?")


class TermReader:
    """Reads a text sign by sign; gone is how many signs are read."""

    def __init__(self, text):
        self.text = text
        self.gone = 0

    def ahead(self):
        """Tell the next sign, a text without signs at the end."""
        return self.text[self.gone:self.gone + 1]

    def pass_by(self, signs):
        """Go past signs that must stand next, one by one, to tell how far they go right."""
        for sign in signs:
            if self.ahead() != sign:
                raise NoText(self.gone)
            self.gone = self.gone + 1

    def figure_is_ahead(self):
        """Tell whether a figure stands next."""
        return self.ahead() != "" and self.ahead() in FIGURES

    def read_figures(self):
        """Read a number without a sign, no 0 ahead but 0 itself."""
        begin = self.gone
        if not self.figure_is_ahead():
            raise NoText(self.gone)
        if self.ahead() == "0":
            self.pass_by("0")
            return 0
        while self.figure_is_ahead() and self.gone - begin < MOST_FIGURES:
            self.gone = self.gone + 1
        return int(self.text[begin:self.gone])

    def read_number(self):
        """Read a number with a - ahead or none."""
        if self.ahead() != "-":
            return self.read_figures()
        self.pass_by("-")
        if self.ahead() == "0":
            # 0 is not below 0, so no number is written with 0 behind the -.
            raise NoText(self.gone)
        return -self.read_figures()

    def read_take(self):
        """Read a take from its bracket on."""
        self.pass_by("[")
        back = self.read_number()
        self.pass_by(" ")
        steps = [self.read_number()]
        while self.ahead() == " " and len(steps) < MOST_STEPS:
            self.pass_by(" ")
            steps.append(self.read_number())
        self.pass_by("]")
        return Take(back, tuple(steps))

    def read_word(self):
        """Read the sign or word between two terms."""
        # No word begins with another one, so the first that is whole is the one.
        begun = ""
        while begun not in WORDS:
            longer = begun + self.ahead()
            if longer == begun or not any([word.startswith(longer) for word in WORDS]):
                raise NoText(self.gone)
            self.pass_by(self.ahead())
            begun = longer
        return begun

    def read_bracket(self, within):
        """Read a term in round brackets, within being how many stand around it."""
        if within == MOST_WITHIN:
            raise NoText(self.gone)
        self.pass_by("(")
        one = self.read_part(within + 1)
        self.pass_by(" ")
        word = self.read_word()
        self.pass_by(" ")
        term = self.read_behind(one, word, within + 1)
        self.pass_by(")")
        return term

    def read_behind(self, one, word, within):
        """Read what stands behind the word, and make the term."""
        if word == "rest":
            return Rest(one, self.read_figures())
        other = self.read_part(within)
        if word == "?":
            self.pass_by(" : ")
            return Chosen(one, other, self.read_part(within))
        return pair_by(word, one, other)

    def read_part(self, within):
        """Read a term with so many round brackets around it."""
        if self.ahead() == "(":
            return self.read_bracket(within)
        if self.ahead() == "[":
            return self.read_take()
        return Number(self.read_number())


def pair_by(word, one, other):
    """Make the term of two terms with this word between them."""
    if word == "+":
        return Added(one, other)
    if word == "-":
        return Lessened(one, other)
    if word == "*":
        return Multiplied(one, other)
    if word == "min":
        return Least(one, other)
    return Most(one, other)


def read_written(text):
    """Read the term that is written so, whatever its numbers and its size."""
    if not isinstance(text, str):
        raise NoText(None)
    reader = TermReader(text)
    term = reader.read_part(0)
    if reader.gone != len(text):
        raise NoText(reader.gone)
    return term


def read_term(text):
    """Read the term that is written so, and look it over."""
    term = read_written(text)
    check_term(term)
    return term

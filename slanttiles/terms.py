"""Terms: what a place's next worth comes of."""

from slanttiles.errors import NoTerm
from slanttiles.wholes import is_within

GREATEST_NUMBER = 1_000_000_000_000
GREATEST_DIVISOR = 1_000_000_000
GREATEST_BACK = 3
GREATEST_STEP = 9
MOST_STEPS = 3
MOST_DEPTH = 12
MOST_PARTS = 60
MOST_TAKES = 6


class Term:
    """What all kinds of terms have; each kind is a class under this one."""

    def inner(self):
        """Tell the terms straight within this one, as they are written from left to right."""
        return []

    def own_fault(self):
        """Tell the word of what is out of its range in this part itself, or None."""
        return None

    def value_by(self, see):
        """Tell the value, see telling the worth of a take."""
        raise NotImplementedError("each kind of term has its own")

    def shown(self):
        """Tell the text of the term."""
        raise NotImplementedError("each kind of term has its own")

    def takes(self):
        """Tell the unlike takes, sorted."""
        pairs = []
        for part in self.inner():
            pairs.extend(part.takes())
        return sorted(set(pairs))

    def depth(self):
        """Tell how deep the term is."""
        return 1 + max([part.depth() for part in self.inner()], default=0)

    def parts(self):
        """Tell how many parts there are, this one too."""
        return 1 + sum([part.parts() for part in self.inner()])


class Number(Term):
    """A whole number."""

    def __init__(self, value):
        self.value = value

    def own_fault(self):
        if is_within(self.value, -GREATEST_NUMBER, GREATEST_NUMBER):
            return None
        return "number"

    def value_by(self, see):
        return self.value

    def shown(self):
        return str(self.value)


class Take(Term):
    """The worth so many rounds back at what is beside by the steps."""

    def __init__(self, back, steps):
        self.back = back
        self.steps = steps

    def own_fault(self):
        if not is_within(self.back, 1, GREATEST_BACK):
            return "back"
        if not are_steps(self.steps):
            return "steps"
        return None

    def value_by(self, see):
        return see((self.back, self.steps))

    def shown(self):
        numbers = " ".join([str(number) for number in (self.back,) + self.steps])
        return f"[{numbers}]"

    def takes(self):
        return [(self.back, self.steps)]


class Paired(Term):
    """What the kinds that are made of two terms have in common."""

    def __init__(self, one, other):
        self.one = one
        self.other = other

    def inner(self):
        return [self.one, self.other]

    def shown_with(self, sign):
        """Tell the text with a sign or word between the two."""
        one = self.one.shown()
        other = self.other.shown()
        return f"({one} {sign} {other})"


class Added(Paired):
    """The sum of two terms."""

    def value_by(self, see):
        return self.one.value_by(see) + self.other.value_by(see)

    def shown(self):
        return self.shown_with("+")


class Lessened(Paired):
    """The difference of two terms."""

    def value_by(self, see):
        return self.one.value_by(see) - self.other.value_by(see)

    def shown(self):
        return self.shown_with("-")


class Multiplied(Paired):
    """The product of two terms."""

    def value_by(self, see):
        return self.one.value_by(see) * self.other.value_by(see)

    def shown(self):
        return self.shown_with("*")


class Least(Paired):
    """The least of two terms."""

    def value_by(self, see):
        return min(self.one.value_by(see), self.other.value_by(see))

    def shown(self):
        return self.shown_with("min")


class Most(Paired):
    """The greatest of two terms."""

    def value_by(self, see):
        return max(self.one.value_by(see), self.other.value_by(see))

    def shown(self):
        return self.shown_with("max")


class Rest(Term):
    """The rest of a term by a whole number, from 0 on."""

    def __init__(self, one, by):
        self.one = one
        self.by = by

    def inner(self):
        return [self.one]

    def own_fault(self):
        if is_within(self.by, 1, GREATEST_DIVISOR):
            return None
        return "by"

    def value_by(self, see):
        return self.one.value_by(see) % self.by

    def shown(self):
        one = self.one.shown()
        by = self.by
        return f"({one} rest {by})"


class Chosen(Term):
    """The first of two terms where a test is above 0, else the second one."""

    def __init__(self, test, one, other):
        self.test = test
        self.one = one
        self.other = other

    def inner(self):
        return [self.test, self.one, self.other]

    def value_by(self, see):
        if self.test.value_by(see) > 0:
            return self.one.value_by(see)
        return self.other.value_by(see)

    def shown(self):
        test = self.test.shown()
        one = self.one.shown()
        other = self.other.shown()
        return f"({test} ? {one} : {other})"


def are_steps(thing):
    """Tell whether a take may have these steps."""
    if not isinstance(thing, tuple) or not 1 <= len(thing) <= MOST_STEPS:
        return False
    return all([is_within(step, -GREATEST_STEP, GREATEST_STEP) for step in thing])


def lines_of(term):
    """Tell how many steps each take has; None where there is no take."""
    counts = sorted(set([len(take[1]) for take in term.takes()]))
    if len(counts) > 1:
        raise NoTerm("lines")
    if len(counts) == 0:
        return None
    return counts[0]


def first_fault(term):
    """Tell the word of the first part that is out of its range, or None."""
    # A rest alone has both terms within and a number of its own, and these go ahead of it.
    for part in term.inner():
        fault = first_fault(part)
        if fault is not None:
            return fault
    return term.own_fault()


def check_term(term):
    """Refuse a term that is out of its bounds."""
    fault = first_fault(term)
    if fault is not None:
        raise NoTerm(fault)
    lines_of(term)
    if term.depth() > MOST_DEPTH:
        raise NoTerm("depth")
    if term.parts() > MOST_PARTS:
        raise NoTerm("parts")
    if len(term.takes()) > MOST_TAKES:
        raise NoTerm("takes")

"""What the program refuses, one class for each thing refused."""


class TileError(ValueError):
    """Any refusal; its value at tells what or where."""

    def __init__(self, at):
        ValueError.__init__(self, at)
        self.at = at


class NoGrid(TileError):
    """Sizes and rims of which no grid is made."""


class NoTerm(TileError):
    """A term out of its bounds."""


class NoJob(TileError):
    """What no job is made of, or what a job doesn't have."""


class NoPaper(TileError):
    """What no paper is made of, or what a paper doesn't let be done."""


class NoText(TileError):
    """A text that isn't written as told."""


class TooGreat(TileError):
    """What is too much to be reckoned."""

"""What several tests need."""

from slanttiles import errors

UNDER = ["NoGrid", "NoTerm", "NoJob", "NoPaper", "NoText", "TooGreat"]


class Odd:
    """A thing that can't be compared, hashed, measured or tested."""

    __hash__ = None

    def fail(self, *others):
        raise AssertionError("a thing of unknown kind was looked into")

    __eq__ = __ne__ = __lt__ = __le__ = __gt__ = __ge__ = fail
    __len__ = __bool__ = __iter__ = __getitem__ = __index__ = __int__ = __add__ = __mod__ = fail


def odd_things():
    """Things of many kinds, none a whole number, a tuple or a list that would do."""
    return [
        True, False, None, "", "1", "fixed", "mirror", [], [1], ["mirror"], {}, {1: 2},
        (), ((),), (None,), (True,), ([],), ({},), {1}, frozenset([1]), b"1", 1j,
        range(3), len, int, Odd(), (Odd(),), (Odd(), Odd()), [Odd()], lambda: 1, object(),
    ]


def refused(case, kind, at, call, *given):
    """Check that a call is refused with just this class and this value."""
    with case.assertRaises(ValueError) as caught:
        call(*given)
    error = caught.exception
    case.assertIsInstance(error, errors.TileError)
    like = [name for name in UNDER if isinstance(error, getattr(errors, name))]
    case.assertEqual(like, [kind.__name__], given)
    case.assertEqual((type(error.at), error.at), (type(at), at), given)


def is_same(one, other):
    """Tell whether two things are equal and of the same kinds throughout (True is not 1)."""
    if type(one) is not type(other):
        return False
    if isinstance(one, (list, tuple)):
        return len(one) == len(other) and all(is_same(a, b) for a, b in zip(one, other))
    if isinstance(one, dict):
        return is_same(sorted(one.items()), sorted(other.items()))
    return one == other

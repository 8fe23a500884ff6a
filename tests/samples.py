"""Nights and odd values that several tests use, and a test case that looks at errors closely."""

import unittest

from restballots.errors import InvalidIndex, NothingToUndo
from restballots.nights import Night

TEXT = "divisors 1 2 3\nparty red 50\nparty blue 30\nparty gold 18\npile 20 blue gold"
DIVISORS = (1, 2, 3)
PARTIES = (("red", 50), ("blue", 30), ("gold", 18))
PILES = ((20, ("blue", "gold")),)
SIX_PARTIES = (("a", 0), ("b", 1), ("c", 2), ("d", 3), ("e", 4), ("f", 5))
SIX_PILES = tuple((size, ("a", "f")) for size in range(6))


def sample():
    return Night(DIVISORS, PARTIES, PILES)


class Agreeing:
    """Calls itself equal to everything."""

    def __eq__(self, other):
        return True

    def __hash__(self):
        return 1


class Refusing:
    """Cannot be compared, measured or iterated over."""

    def __eq__(self, other):
        raise RuntimeError

    def __len__(self):
        raise RuntimeError

    def __iter__(self):
        raise RuntimeError

    def __hash__(self):
        raise RuntimeError


def nested(depth):
    value = ()
    for _ in range(depth):
        value = (value,)
    return value


def odd_values():
    """Values of many kinds; none of them is a name, a number from 0 on, or a tuple of such."""
    return [
        None, True, False, -1, -(10 ** 39), "", " ", "Red", "2x", "red blue", "\n", b"red", b"", [], [1, 2], {}, {"a": 1},
        set(), {1}, frozenset(), (None,), (True,), ((),), ((), ()), nested(9), [[[[]]]], object(), len, int, Night,
        sample(), (sample(),), InvalidIndex(3), NothingToUndo(), ValueError("x"), ValueError, Agreeing(), Refusing(),
        (Agreeing(),), (Refusing(),), (Agreeing(), Agreeing()), range(3), complex(1, 2), NotImplemented, ...,
    ]


class CloseTest(unittest.TestCase):
    def raised(self, kind, call, *args, **more):
        """The error that the call raises, which is of just this class."""
        with self.assertRaises(kind) as caught:
            call(*args, **more)
        self.assertEqual(caught.exception.__class__.__name__, kind.__name__)
        self.assertIs(type(caught.exception), kind)
        return caught.exception

    def raises_given(self, kind, given, call, *args, **more):
        self.assertIs(self.raised(kind, call, *args, **more).given, given)

    def raises_index(self, kind, index, call, *args, **more):
        found = self.raised(kind, call, *args, **more).index
        self.assertEqual((type(found), found), (type(index), index))

"""Things of many kinds that the tests hand in, and what they are compared by."""

import unittest


class Comparing(unittest.TestCase):
    """Asks whether two are alike, in each way and from both sides."""

    def compare(self, one, other, alike):
        for left, right in ((one, other), (other, one)):
            self.assertIs(left == right, alike)
            self.assertIs(left != right, not alike)
            self.assertIs(left in (right,), alike)
            self.assertIs(left in ["other thing", right], alike)


class Alike:
    """Says that it is alike to anything, and can stand in no set."""

    __hash__ = None

    def __eq__(self, other):
        return True

    def __ne__(self, other):
        return False


class Sore:
    """Raises when it is compared, measured, taken for a truth, gone through or written out."""

    __hash__ = None

    def sore(self, *rest):
        raise AssertionError("nobody may ask this")

    __eq__ = __ne__ = __lt__ = __le__ = __gt__ = __ge__ = sore
    __bool__ = __len__ = __iter__ = __str__ = __repr__ = __int__ = __index__ = sore


def deep(levels):
    """A list in a list in a list .."""
    thing = []
    for level in range(levels):
        thing = [thing]
    return thing


HUGE = 10 ** 5000

# What is never a whole number, nor a text.
OTHER_KINDS = (
    True, False, None, b"", b"a", (), (1,), ("a",), (("a", 0, 1),), [], [1], ["a"], {}, {"a": 1}, {1: "a"},
    set(), frozenset(), object(), object, len, range(3), Alike(), Sore(), deep(10),
)

NO_WHOLES = OTHER_KINDS + ("", "a", "1", "0", " 1", "1\n", "one")

NO_NAMES = OTHER_KINDS + (
    0, 1, -1, HUGE, "", "abcdefghi", "A", "aB", "Ab", "a1", "1", "a b", " a", "a ", "a\n", "\n", "a_b", "a-b", "`", "{",
    "@", "\u00e4", "\u00df", "\uff41", "\u0430", "\ud800", "a\0", "a" * 9, "a" * 8000,
)

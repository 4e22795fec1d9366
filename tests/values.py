"""Scenes of the document, and values of all kinds that can be passed [0.4]."""

from unittest import TestCase

from fewtouched.base.scenes import Scene
from fewtouched.errors import InvalidScene, TooMany

SHOP = Scene(changing={"buyer": ("who",), "order": ("part", "who"), "stock": ("part",)})
GOODS = Scene(changing={"order": ("part", "who"), "stock": ("shelf",)},
              fixed={"place": ("part", "shelf")}, keyed={"place": ("part",)})

LONG = 10 ** 40 - 1


def nested(value, depth):
    """The value in so many tuples, lists and dicts, one in another."""
    for level in range(depth):
        value = ((value,), [value], {"a": value})[level % 3]
    return value


def is_choice(value):
    """Whether the value is a tuple of different names in any order, told in a way of its own."""
    letters = "abcdefghijklmnopqrstuvwxyz"
    if type(value) is not tuple or any(type(name) is not str for name in value):
        return False
    good = all(0 < len(name) < 9 and all(sign in letters for sign in name) for name in value)
    return good and len(set(value)) == len(value)


def has_hash(value):
    """Whether the value can be a key of a dict."""
    try:
        hash(value)
    except TypeError:
        return False
    return True


NUMBERS = (0, 1, -1, 7, LONG, -LONG)
NAMES = ("a", "z", "who", "self", "abcdefgh", "zzzzzzzz")
NO_NAMES = ("", "A", "Who", "whO", "abcdefghi", "a b", " a", "a ", "a1", "1", "a_b", "_", "a-b", "a,", "a\n", "\n",
            "\ta", "`", "{", "@", "[", "changing ", "a" * 10000)

# None of these is a string, so none of them is a name; none is a tuple.
NO_STRINGS = NUMBERS + (True, False, None, [], ["a"], ["a", "b"], [1], {}, {"a": 1}, {"a": ()}, {"a": "b"}, {1: 2},
                        [()], [("a",)], SHOP, GOODS, InvalidScene("x"), TooMany(3), nested("a", 9), nested(1, 10))

TUPLES = ((), ("a",), ("a", "b"), ("a", "b", "c"), ("a",) * 2, ("b", "a"), (1,), (True,), (None,), ("",), ("A",),
          ((),), (("a",),), (["a"],), ({},), ("a", 1), (1, "a"), ("a", None), ("changing",), ("a", (), None),
          ("a", (), "changing"), (SHOP,), (("a", (), None),))

ALL = NAMES + NO_NAMES + NO_STRINGS + TUPLES + ("changing", "fixed", "tables", "columns", "keyed")

NOT_NAMES = NO_NAMES + NO_STRINGS + TUPLES
NOT_CHOICES = tuple([value for value in ALL if not is_choice(value)])
NOT_DICTS = tuple([value for value in ALL if not isinstance(value, dict)])


class Case(TestCase):
    """A test with a stricter look at errors."""

    def raises(self, error, call, *args, **more):
        """The error of a call, which has to be of just this class."""
        with self.assertRaises(error) as caught:
            call(*args, **more)
        self.assertIs(type(caught.exception), error)
        return caught.exception

    def raises_with(self, error, attribute, value, call, *args, **more):
        """As raises, with the value that the error keeps, which has to be of the same kind, too."""
        kept = getattr(self.raises(error, call, *args, **more), attribute)
        self.assertEqual(kept, value)
        self.assertIs(type(kept), type(value))

    def same(self, first, second):
        """Equal values that are of the same kind, so True is not 1; at every depth of tuples."""
        self.assertEqual(first, second)
        self.assertIs(type(first), type(second))
        if isinstance(first, tuple):
            for one, other in zip(first, second):
                self.same(one, other)

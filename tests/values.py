"""Scenes of the document, and values of all kinds that can be passed [0.4]."""

from inspect import isgenerator
from unittest import TestCase

from fewtouched.base.bases import Base
from fewtouched.base.scenes import Scene
from fewtouched.books.keeper import Keeper
from fewtouched.books.shifts import Shift
from fewtouched.desk.desk import Desk
from fewtouched.errors import InvalidScene, TooMany
from fewtouched.text.shell import Shell

SHOP = Scene(changing={"buyer": ("who",), "order": ("part", "who"), "stock": ("part",)})
GOODS = Scene(changing={"order": ("part", "who"), "stock": ("shelf",)},
              fixed={"place": ("part", "shelf")}, keyed={"place": ("part",)})

CHAIN = Scene(changing={"r": ("a",)}, fixed={"s": ("a", "b"), "t": ("b", "c")}, keyed={"s": ("a",), "t": ("b",)})
DAY = Base(SHOP, buyer=((1,), (2,)), order=((10, 1), (10, 1), (20, 1), (20, 2)), stock=((10,),))
SHELVES = Base(GOODS, order=((10, 1),), place=((10, 7), (20, 7)), stock=((7,),))

# The scene that stage 8 calls LONG.
FAR = Scene(changing={"a": ("x",), "b": ("y",)}, fixed={"s": ("x", "z"), "u": ("y", "z")})

LONG = 10 ** 40 - 1


def nested(value, depth):
    """The value in so many tuples, lists and dicts, one in another."""
    for level in range(depth):
        value = ((value,), [value], {"a": value})[level % 3]
    return value


def is_choice(value):
    """Whether the value is a tuple of different names in any order, told in a way of its own."""
    letters = "abcdefghijklmnopqrstuvwxyz"
    if type(value) is not tuple or any(type(name) is not str for name in value):
        return False
    good = all(0 < len(name) < 9 and all(sign in letters for sign in name) for name in value)
    return good and len(set(value)) == len(value)


def has_hash(value):
    """Whether the value can be a key of a dict."""
    try:
        hash(value)
    except TypeError:
        return False
    return True


NUMBERS = (0, 1, -1, 7, LONG, -LONG)
NAMES = ("a", "z", "who", "self", "abcdefgh", "zzzzzzzz")
NO_NAMES = ("", "A", "Who", "whO", "abcdefghi", "a b", " a", "a ", "a1", "1", "a_b", "_", "a-b", "a,", "a\n", "\n",
            "\ta", "`", "{", "@", "[", "changing ", "a" * 10000)

# None of these is a string, so none of them is a name; none is a tuple.
NO_STRINGS = NUMBERS + (True, False, None, [], ["a"], ["a", "b"], [1], {}, {"a": 1}, {"a": ()}, {"a": "b"}, {1: 2},
                        [()], [("a",)], SHOP, GOODS, InvalidScene("x"), TooMany(3), nested("a", 9), nested(1, 10))

TUPLES = ((), ("a",), ("a", "b"), ("a", "b", "c"), ("a",) * 2, ("b", "a"), (1,), (True,), (None,), ("",), ("A",),
          ((),), (("a",),), (["a"],), ({},), ("a", 1), (1, "a"), ("a", None), ("changing",), ("a", (), None),
          ("a", (), "changing"), (SHOP,), (("a", (), None),))

ALL = NAMES + NO_NAMES + NO_STRINGS + TUPLES + ("changing", "fixed", "tables", "columns", "keyed")

NOT_NAMES = NO_NAMES + NO_STRINGS + TUPLES
NOT_CHOICES = tuple([value for value in ALL if not is_choice(value)])
NOT_DICTS = tuple([value for value in ALL if not isinstance(value, dict)])


# Values that are right for some parameters of some scenes, so they are wrong for the others.
MORE = ("part", "shelf", "order", "place", "stock", "buyer", "r", ("part",), ("who",), ("part", "who"), ("who", "part"),
        ("part", "part"), ["part"], ["part", "who"], ("part", "shelf", "who"), ("order",), ("order", "stock"),
        ("stock", "order"), ("order", "order"), ["order", "stock"], ("buyer", "order", "stock"), ("order", "place"),
        ("order", "place", "stock"), ("part", "order"), ("order", "zz"), (("part",), ("who",)), (("who",), "part"),
        ((), ("zz",)), [()], ((), ["part"]), ((), None), (("order",), ()), (("order",), ("who",)),
        [("order",), ("who",)], (["order"], ("who",)), (("order",), ["who"]), (("order",), ("who",), ()),
        (("order",), ("shelf",)), (("stock", "order"), ()), ((), ("who",)), (("order",), ("who", "part")), (1, 2),
        (10, 1), [10, 1], (10, True), (10, None), (10, (1,)), (1, 2, 3), (LONG,), (-LONG, LONG), {"order": ((10, 1),)},
        {"order": [(10, 1)]}, {10: 1}, DAY, SHELVES, (DAY, (10, 1)), [DAY], {"a": DAY}, nested(DAY, 9), Keeper(SHELVES),
        Shift(SHELVES, (("order",), ("stock",))), Desk(), Shell(), (Keeper(SHELVES),), [Desk()], nested(Shell(), 9),
        Desk().trial())

EVERY = ALL + MORE


def is_subset(value, names):
    """Whether the value is an ascending tuple of some of the names, told in a way of its own."""
    return type(value) is tuple and list(value) == [name for name in sorted(set(names)) if name in value]


def no_table(scene):
    return [value for value in EVERY if type(value) is not str or value not in scene.tables]


def no_columns(scene):
    return [value for value in EVERY if not is_subset(value, scene.columns)]


def no_tables(scene):
    return [value for value in EVERY if not is_subset(value, scene.tables) or value == ()]


def no_role(scene):
    return [value for value in no_columns(scene) if type(value) is not str or value not in scene.changing]


def no_doors(scene):
    return [value for value in EVERY if type(value) is not tuple or not all(is_subset(door, scene.columns) for door in value)]


def no_integers(many):
    """Values that are no tuple of so many integers."""
    return [value for value in EVERY if type(value) is not tuple or len(value) != many
            or any(type(part) is not int for part in value)]


def no_view(scene):
    known = {table: set(columns) for table, columns, _ in scene.lines}
    found = []
    for value in EVERY:
        if type(value) is tuple and len(value) == 2 and is_subset(value[0], known) and value[0] != ():
            if is_subset(value[1], set().union(*[known[table] for table in value[0]])):
                continue
        found.append(value)
    return found


NO_SCENES = tuple([value for value in EVERY if not isinstance(value, Scene)])
NO_BASES = tuple([value for value in EVERY if not isinstance(value, Base)])
NO_NUMBERS = tuple([value for value in EVERY if type(value) is not int or value < 0])


class Case(TestCase):
    """A test with a stricter look at errors."""

    def raises(self, error, call, *args, **more):
        """The error of a call, which has to be of just this class."""
        with self.assertRaises(error) as caught:
            call(*args, **more)
        self.assertIs(type(caught.exception), error)
        return caught.exception

    def raises_with(self, error, attribute, value, call, *args, **more):
        """As raises, with the value that the error keeps, which has to be of the same kind, too."""
        kept = getattr(self.raises(error, call, *args, **more), attribute)
        self.assertEqual(kept, value)
        self.assertIs(type(kept), type(value))

    def same(self, first, second):
        """Equal values that are of the same kind, so True is not 1; at every depth of tuples."""
        self.assertEqual(first, second)
        self.assertIs(type(first), type(second))
        if isinstance(first, tuple):
            for one, other in zip(first, second):
                self.same(one, other)

    def told(self, first, second):
        """Equal dicts with the same order of keys, and keys and values of the same kinds."""
        self.assertIs(type(first), dict)
        self.same(tuple(first.items()), tuple(second.items()))

    def lazily(self, error, call, *args, **more):
        """The error of a generator, which comes when the first result is asked for, and not before."""
        generator = call(*args, **more)
        self.assertTrue(isgenerator(generator))
        return self.raises(error, next, generator)

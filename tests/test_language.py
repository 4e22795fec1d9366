"""The rules of the language over all files of the package, and that the script of these rules sees what it is to see."""

from pathlib import Path

from tests.language import PACKAGE, complaints
from tests.values import Case

ROOT = Path(__file__).resolve().parent.parent


def files_of_package():
    """The texts of all files below the folder of the package, by their paths."""
    found = {}
    for path in sorted((ROOT / PACKAGE).rglob("*")):
        if path.is_file() and "__pycache__" not in path.parts:
            found[path.relative_to(ROOT).as_posix()] = path.read_text(encoding="utf-8")
    return found


class ThePackage(Case):

    def test_no_complaints(self):
        self.assertEqual(complaints(files_of_package()), [])

    def test_files_are_there(self):
        files = files_of_package()
        modules = ("errors", "base/names", "base/scenes", "base/bases", "base/matches", "views/closures", "views/views",
                   "views/quiet", "strain/bridges", "books/pieces", "books/books", "books/keeper", "strain/twins",
                   "strain/served", "books/shifts", "change/operations", "desk/desk", "text/formats", "text/shell")
        for path in modules:
            self.assertIn(f"fewtouched/{path}.py", files)
            self.assertIn(f"fewtouched/{path}".rpartition("/")[0] + "/__init__.py", files)

    def test_no_tests_in_it(self):
        for path in files_of_package():
            self.assertNotIn("test", path)


GOOD = '''"""Good."""

from fewtouched.more import Wrong, helper

LIMIT = 6
WORDS = ("a", "b")
TABLE = {"a": 1, "b": (2, 3)}


class Box:
    """A box."""

    SIDE = 3

    def __init__(self, rows, *, many=LIMIT):
        self._rows = list(rows)
        self._many = many

    @property
    def many(self):
        """How many."""
        return self._many

    @classmethod
    def of(cls, rows):
        return cls(rows)

    def put(self, row, *others):
        self._rows.append(row)
        for other in others:
            self._rows.append(other)

    def __or__(self, other):
        if not isinstance(other, Box):
            raise Wrong("no box")
        told = {}
        for row in self._rows:
            told[row] = True
        box = Box(sorted(told), many=3)
        box._many = 4
        return box

    def __contains__(self, value):
        return isinstance(value, str) and value in self._rows

    def __iter__(self):
        return iter(self._rows)

    def __len__(self):
        return len(self._rows)

    def __eq__(self, other):
        return isinstance(other, Box) and self._rows == other._rows

    def __str__(self):
        return f"box of {len(self._rows)} rows"

    def __enter__(self):
        self._many = 1
        return self

    def __exit__(self, kind, value, trace):
        rows = self._rows
        self._kept = rows
        self._many = 0


def held(box):
    with box as same:
        return same.many


def steps(rows):
    for at, row in enumerate(rows):
        if row is not None:
            yield at, row


def use(rows, key=None):
    seen = set()
    for at, row in steps(rows):
        if row not in seen:
            seen.add(row)
    try:
        helper(rows, by=2)
    except Wrong:
        return len(seen)
    pairs = [(one, other) for one, other in zip(rows, rows[1:])]
    total = 0
    for one, other in pairs:
        total += one * other ** 2
    ordered = sorted(pairs, key=lambda pair: pair[0])
    return total, ordered, sorted({row for row in rows}), max([0, *rows]), ", ".join([str(row) for row in rows])
'''
MORE = '''"""More."""


class Wrong(ValueError):
    """Wrong."""


def helper(rows, *, by=1):
    return [row for row in rows if row > by]
'''


def told_of(text, path="fewtouched/one.py", **others):
    """The rules about which there are complaints, for a package with this file."""
    files = {"fewtouched/__init__.py": "", "fewtouched/more.py": MORE, path: text, **others}
    return sorted({line.split(": ")[1] for line in complaints(files)})


# A rule, and lines that break it.
BAD = (
    ("L16", "import json"), ("L2", "from json import loads"), ("L2", "from .more import helper"),
    ("L2", "from fewtouched.more import *"), ("L2", "from fewtouched.more import helper as other"),
    ("L2", "from itertools import product"), ("L2", "from itertools import combinations"),
    ("L2", "from collections import Counter"), ("L2", "from random import random"), ("L2", "from time import time"),
    ("L2", "A = 1\nfrom fewtouched.more import helper"), ("L2", "def f():\n    from fewtouched.more import helper"),
    ("L16", "import fewtouched.more"), ("L16", "from fewtouched.more import nothing"),
    ("L16", "from fewtouched.nothing import helper"), ("L16", "from fewtouched import more"),
    ("L16", "from fewtouched.one import f\n\n\ndef f():\n    return 1"),
    ("L3", "print(1)"), ("L3", "A = len((1, 2))"), ("L3", "A, B = 1, 2"), ("L3", "A = B = 1"), ("L3", "for A in ():\n    pass"),
    ("L3", "A = [x for x in (1, 2)]"), ("L3", "A = ((1, [2]), [[1]])"), ("L3", "A = {\"a\": [1]}"), ("L3", "if 1:\n    A = 1"),
    ("L15", "A = 1\nA = 2"), ("L15", "def f():\n    return 1\n\n\nf = 2"), ("L15", "def f(len):\n    return 1"),
    ("L15", "def f():\n    list = 1\n    return list"), ("L15", "def f(xs):\n    return [hash for hash in xs]"),
    ("L15", "def next():\n    return 1"), ("L15", "from fewtouched.more import helper\n\n\ndef f(helper):\n    return 1"),
    ("L15", "class Box:\n    \"\"\"Box.\"\"\"\n\n\ndef f():\n    Box = 1\n    return Box"), ("L15", "TimeoutError = 1"),
    ("L4", "def f(x=[]):\n    return x"), ("L4", "def f(x=len(\"a\")):\n    return x"), ("L4", "@f\ndef g():\n    return 1"),
    ("L4", "class A:\n    def f(self, *, key=[]):\n        return key"), ("L4", "def f():\n    return lambda *x: x"),
    ("L4", "class A:\n    def f(self, /, x):\n        return x"), ("L4", "class A:\n    def pop(self, *, x):\n        return x"),
    ("L5", "class A:\n    def __hash__(self):\n        return 1"), ("L5", "class A(dict):\n    \"\"\"A.\"\"\""),
    ("L5", "class A(StopIteration):\n    \"\"\"A.\"\"\""), ("L5", "class A:\n    X = []"), ("L5", "class A:\n    print(1)"),
    ("L5", "class A:\n    def __next__(self):\n        return 1"), ("L5", "class A(ValueError):\n    X = 1"),
    ("L5", "class A(ValueError):\n    @property\n    def f(self):\n        return 1"),
    ("L5", "class A:\n    def __iter__(self):\n        rows = [1]\n        return iter(rows)"),
    ("L5", "class A:\n    def __or__(self, other):\n        self.x = 1\n        return other"),
    ("L5", "class A:\n    def __or__(self, other):\n        new = A()\n        new = other\n        new.x = 1\n        return new"),
    ("L5", "class A:\n    def __or__(self, other):\n        other.rows.append(1)\n        return other"),
    ("L5", "class A:\n    def __or__(self, other):\n        return other()"),
    ("L5", "class A:\n    def __or__(self, other):\n        return f(other)\n\n\ndef f(x):\n    x[0] = 1\n    return x"),
    ("L5", "class A:\n    @property\n    def n(self):\n        return self.g()\n\n    def g(self):\n        self.x = 1\n        return 1"),
    ("L5", "class A:\n    def __str__(self):\n        return str(f([]))\n\n\ndef f(x):\n    x.append(1)\n    return x"),
    ("L5", "class A:\n    def __or__(self, other):\n        total = []\n        total += other\n        return total"),
    ("L5", "class A:\n    @property\n    def n(self):\n        return 1\n\n\nclass B:\n    def __init__(self):\n        self.n = 1"),
    ("L5", "class A:\n    @property\n    def n(self):\n        return 1\n\n\nclass B:\n    def n(self):\n        return 1"),
    ("L5", "class A:\n    @property\n    def title(self):\n        return 1"),
    ("L6", "def f():\n    global A"), ("L6", "async def f():\n    return 1\n\n\ndef g():\n    async def h():\n        return 1"),
    ("L6", "def f(x):\n    x == 1"), ("L6", "def f(x):\n    del x.y"), ("L6", "def f(x):\n    match x:\n        case 1:\n            pass"),
    ("L6", "class A:\n    def __exit__(self, kind, value, trace):\n        self.x = f(1)"),
    ("L6", "class A:\n    def __exit__(self, kind, value, trace):\n        self.x = value"),
    ("L6", "class A:\n    def __exit__(self, kind, value, trace):\n        return True"), ("L6", "class A:\n    def __exit__(self):\n        pass"),
    ("L6", "class A:\n    def __exit__(self, kind, value, trace):\n        self.x += -1"), ("L6", "class A:\n    def __enter__(self, x):\n        return x"),
    ("L6", "def f(xs):\n    with xs[0]:\n        return 1"), ("L6", "def f(x):\n    with x as x[0]:\n        return 1"),
    ("L7", "A = 1.5"), ("L7", "def f(x):\n    return x / 2"), ("L7", "def f(x):\n    return x @ x"), ("L7", "def f():\n    return ..."),
    ("L7", "def f(xs):\n    return any(x for x in xs)"), ("L7", "def f(xs):\n    return (x for x in xs)"),
    ("L7", "def f(xs):\n    return sum(x for x in xs)"), ("L7", "def f(xs):\n    return len(*xs)"),
    ("L7", "def f(g, xs):\n    return g(*[x for x in xs])"), ("L7", "def f(xs):\n    return (y := xs)"),
    ("L7", "def f(xs):\n    return xs[0](1)"),
    ("L8", "def f(x):\n    return chr(x)"), ("L8", "def f(x):\n    return hash(x)"), ("L8", "def f():\n    print(1)"),
    ("L8", "def f():\n    return unknown"), ("L8", "def f(x):\n    return round(x)"), ("L8", "def f(xs):\n    return filter(None, xs)"),
    ("L8", "def f(x):\n    return x.__dict__"), ("L8", "def f(x):\n    return getattr(x, \"a\")"), ("L8", "def f(x):\n    return open(x)"),
    ("L10", "def f():\n" + "    x = 1\n" * 40), ("L10", "A = 1\n" + "# more\n" * 400), ("L10", "A = \"" + "a" * 120 + "\""),
    ("L12", "def f():\n    _ = 1\n    return _"), ("L12", "# _wall"), ("L12", "def f(_enum_x):\n    return 1"), ("L12", "_cold2 = 1"),
    ("L8", "__A = 1"), ("L12", "_9 = 1"), ("L12", "def f(x):\n    return x._record"),
    ("L13", "def f(xs):\n    return sorted(xs, key=lambda x: x), sorted(xs, key=lambda x: x)"),
    ("L14", "# \t"), ("L14", "# \u00e9"), ("L14", "A = \"\u20ac\""),
    ("L17", "def f(x):\n    return x.mro"), ("L17", "def law():\n    return 1"), ("L17", "def f(open):\n    return 1"), ("L17", "id = 1"),
    ("L17", "def f(os):\n    return 1"), ("L17", "def f(x):\n    return type(x)"), ("L17", "A = \"enum\""), ("L17", "def f(x):\n    return x.f_back"),
    ("L17", "def f(g):\n    return g(input=1)"), ("L17", "class A:\n    def register(self):\n        return 1"), ("L17", "typing = 1"),
    ("L17", "class A:\n    def help(self):\n        return 1"), ("L17", "my_dataclass = 1"),
    ("L18", "class A:\n    def __init__(self):\n        self.f = 1\n\n    def f(self):\n        return 1"),
    ("L18", "class A:\n    \"\"\"A.\"\"\"\n\n\ndef f():\n    return [A]"), ("L18", "def f(x):\n    return x.strange"),
    ("L18", "class A:\n    def f(self):\n        return 1\n\n    def f(self):\n        return 2"),
    ("L19", "def f():\n    try:\n        pass\n    except Exception:\n        pass"), ("L19", "def f():\n    raise"),
    ("L19", "def f():\n    try:\n        pass\n    except TypeError:\n        pass"), ("L19", "def f(x):\n    raise x"),
    ("L19", "def f():\n    try:\n        pass\n    except:\n        pass"), ("L19", "def f(x):\n    raise x.wrong()"),
    ("L20", "def f(x, y):\n    return x is y"), ("L20", "def f(x):\n    return x is not 1"), ("L21", "def f(x: int):\n    return x"),
    ("L22", "def f(xs):\n    return sorted(xs, by=1)"), ("L22", "def f(xs):\n    g = len\n    return g(xs)"), ("L22", "def f(x):\n    return f(x, 1)"),
    ("L22", "def f(x):\n    return f()"), ("L22", "def f(x, *, y):\n    return f(x)"), ("L22", "def f(x):\n    return f(z=1)"),
    ("L22", "class A:\n    \"\"\"A.\"\"\"\n\n\ndef f():\n    return A(1)"), ("L22", "def f():\n    raise ValueError(why=1)"),
    ("L23", "def f(xs):\n    return zip(xs, xs)"), ("L23", "def f(d):\n    return d.items()"), ("L23", "def f(d):\n    return len(d.keys())"),
    ("L23", "def f(xs):\n    for x in xs:\n        xs.append(x)"), ("L23", "def f(d):\n    for k in d.items():\n        d[k] = 1"),
    ("L23", "def f(xs):\n    for k, x in enumerate(xs):\n        xs.pop()"), ("L23", "def f(xs):\n    yield 1\n\n\ndef g(xs):\n    return f(xs)"),
    ("L7", "def f(d, x, xs):\n    d[x, *xs] = 1"), ("L7", "def f(xs):\n    return len({*xs})"),
    ("L23", "def f(xs):\n    yield xs\n\n\ndef g(xs):\n    return list(f(len(xs)))"),
    ("L23", "def f(xs):\n    yield xs\n\n\ndef g(xs):\n    return any(f(xs))"),
    ("L23", "def f(xs):\n    yield xs\n\n\nclass A:\n    def f(self):\n        return 1"),
    ("L23", "def split(xs):\n    yield xs"),
    ("L23", "def f(xs):\n    x = yield 1\n    return x"), ("L23", "def f(xs):\n    return set(zip(xs, xs)) == set()"),
    ("L24", "def f(xs):\n    return set(xs)"), ("L24", "def f(xs):\n    return [x for x in {1, 2}]"), ("L24", "def f(xs):\n    return tuple(set(xs))"),
    ("L24", "def f(xs):\n    seen = set()\n    return seen"), ("L24", "def f(xs):\n    seen = set(xs)\n    for x in seen:\n        pass"),
    ("L24", "def f(xs):\n    seen = set()\n    seen = set(xs)\n    return len(seen)"), ("L24", "def f(xs):\n    seen = set()\n    seen.update(xs)"),
    ("L25", "def f(x):\n    return x.popitem()"), ("L25", "def f(xs):\n    xs.sort()"), ("L25", "def f(x):\n    return x.split(sep=\"a\")"),
    ("L25", "def f(x):\n    return x.encode()"), ("L25", "def f(x):\n    return x.union(x)"), ("L25", "def f(x):\n    return x.format(1)"),
    ("L26", "class A:\n    def __init__(self):\n        self.items = 1"), ("L26", "class A:\n    def __init__(self):\n        self.args = 1"),
    ("L27", "A = \"50 %\""), ("L27", "A = \"\\r\""), ("L27", "A = \"\\u0041\""), ("L27", "def f(x):\n    return 2 ** x"), ("L27", "A = \"__x__\""),
    ("L27", "def f(x):\n    return f\"{x} %\""), ("L27", "A = \"a._\""), ("L27", "A = 2 ** 65"), ("L27", "A = \"f_code\""), ("L27", "A = \"a.__x\""),
    ("L28", "class A:\n    def __init__(self):\n        return None"), ("L28", "class A:\n    def __len__(self):\n        return self.f()\n\n    def f(self):\n        return 1"),
    ("L28", "class A:\n    def __eq__(self, other):\n        return self.x == other.x\n\n    def __init__(self):\n        self.x = 1"),
    ("L28", "class A:\n    def __str__(self):\n        return f(1)\n\n\ndef f(x):\n    return \"a\""), ("L28", "def __len__(x):\n    return 1"),
)


class TheScript(Case):

    def test_good_code(self):
        self.assertEqual(complaints({"fewtouched/__init__.py": '"""All."""\n', "fewtouched/more.py": MORE,
                                     "fewtouched/one.py": GOOD}), [])

    def test_bad_code(self):
        for rule, text in BAD:
            with self.subTest(rule, text=text):
                self.assertIn(rule, told_of(text + "\n"))

    def test_files(self):
        self.assertIn("L1", told_of("", path="fewtouched/notes.txt"))
        self.assertIn("L1", told_of("", path="fewtouched/Names.py"))
        self.assertIn("L1", told_of("", path="other/names.py"))
        self.assertIn("L14", told_of("", path="fewtouched/part/names.py"))
        self.assertIn("L14", told_of("", path="fewtouched/test_names.py"))
        self.assertIn("L14", told_of("", path="fewtouched/filter.py"))
        self.assertIn("L14", told_of("", path="fewtouched/enum.py"))
        self.assertIn("L14", told_of("", path="fewtouched/base.py", **{
            "fewtouched/base/__init__.py": "", "fewtouched/base/names.py": ""}))
        self.assertIn("L14", told_of("", path="fewtouched/base/__main__.py", **{"fewtouched/base/__init__.py": ""}))
        self.assertIn("L2", told_of("", path="fewtouched/math.py"))

    def test_more_than_a_hundred_files(self):
        files = {f"fewtouched/file{at}.py": "" for at in range(100)}
        self.assertIn("L14", told_of("", **files))

    def test_imports_in_a_circle(self):
        first = "from fewtouched.two import g\n\n\ndef f():\n    return g()\n"
        second = "from fewtouched.one import f\n\n\ndef g():\n    return f()\n"
        self.assertIn("L16", told_of(first, **{"fewtouched/two.py": second}))
        above = "from fewtouched.part.two import g\n"
        self.assertIn("L16", told_of(above, path="fewtouched/part/__init__.py", **{
            "fewtouched/part/two.py": "def g():\n    return 1\n"}) + told_of(
            "from fewtouched.part.three import h\n\n\ndef f():\n    return h()\n", **{
                "fewtouched/part/__init__.py": "from fewtouched.one import f\n",
                "fewtouched/part/three.py": "def h():\n    return 1\n"}))

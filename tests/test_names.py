"""Stage 1: names, columns, and integers for columns."""

from fewtouched.base.names import is_columns, is_name, joined, project
from fewtouched.errors import InvalidOperation
from tests.values import ALL, Case, LONG, NAMES, NO_NAMES, NO_STRINGS, NUMBERS, TUPLES, nested

NO_COLUMNS = (None, True, 0, 1, "a", "", "ab", ["a"], [], {}, {"a": 1}, ("b", "a"), ("a", "a"), ("a", "b", "b"),
              ("a", "c", "b"), ("A",), ("",), (1,), (None,), (True,), ("a", 1), (("a",),), (["a"],), ("abcdefghi",),
              ("a", "b "), ((),))
NO_INTEGERS_FOR_TWO = (None, True, 5, "ab", "12", [1, 2], {}, {1: 2, 3: 4}, (), (1,), (1, 2, 3), (1, True), (False, 1),
                       (1, "2"), ("1", 2), (1, None), ((1,), 2), ([1], 2), (1, {}), ((1, 2),), ((), ()))


class Document(Case):

    def test_examples(self):
        self.assertEqual(
            [is_name("Who"), is_columns(("part", "who")), is_columns(("who", "part")),
             project(("part", "who"), (10, 1), ("who",))],
            [False, True, False, (1,)])
        self.assertEqual(
            [joined(("part", "who"), (10, 1), ("shelf", "who"), (7, 1)),
             joined(("part", "who"), (10, 1), ("who",), (2,))],
            [(("part", "shelf", "who"), (10, 7, 1)), None])


class IsName(Case):

    def test_names(self):
        for letters in range(1, 9):
            self.assertIs(is_name("abcdefgh"[:letters]), True)
            self.assertIs(is_name("z" * letters), True)
        for letter in "abcdefghijklmnopqrstuvwxyz":
            self.assertIs(is_name(letter), True)
            self.assertIs(is_name("n" + letter), True)
        for name in NAMES:
            self.assertIs(is_name(name), True)

    def test_length(self):
        self.assertIs(is_name(""), False)
        self.assertIs(is_name("abcdefghi"), False)
        self.assertIs(is_name("a" * 10000), False)

    def test_each_other_sign(self):
        others = [chr(code) for code in [9, 10, *range(32, 127)] if not "a" <= chr(code) <= "z"]
        for sign in others:
            for text in (sign, "a" + sign, sign + "a", "ab" + sign + "cd", "a" * 7 + sign):
                with self.subTest(text):
                    self.assertIs(is_name(text), False)

    def test_other_values(self):
        for value in NO_NAMES + NO_STRINGS + TUPLES:
            with self.subTest(value):
                self.assertIs(is_name(value), False)


class IsColumns(Case):

    def test_columns(self):
        for value in ((), ("a",), ("a", "b"), ("abcdefgh", "z"), ("a", "aa", "ab", "b"), ("part", "shelf", "who"),
                      tuple("abcdefghijklmnopqrstuvwxyz")):
            with self.subTest(value):
                self.assertIs(is_columns(value), True)

    def test_no_columns(self):
        for value in NO_COLUMNS:
            with self.subTest(value):
                self.assertIs(is_columns(value), False)

    def test_other_values(self):
        for value in NAMES + NO_NAMES + NO_STRINGS:
            with self.subTest(value):
                self.assertIs(is_columns(value), False)

    def test_names_within(self):
        for name in NAMES:
            self.assertIs(is_columns((name,)), True)
        for value in NO_NAMES + NO_STRINGS + TUPLES:
            with self.subTest(value):
                self.assertIs(is_columns((value,)), False)
                self.assertIs(is_columns(("a", value)), False)
                self.assertIs(is_columns((value, "zz")), False)


class Project(Case):

    def test_ordinary(self):
        columns, integers = ("a", "c", "m", "x"), (4, 3, 2, 1)
        self.same(project(columns, integers, ()), ())
        self.same(project(columns, integers, columns), integers)
        self.same(project(columns, integers, ("c", "x")), (3, 1))
        self.same(project(columns, integers, ("a",)), (4,))
        self.same(project(columns, integers, ("a", "m")), (4, 2))
        self.same(project((), (), ()), ())

    def test_integers(self):
        for one in NUMBERS:
            for other in NUMBERS:
                self.same(project(("a", "b"), (one, other), ("b",)), (other,))
                self.same(project(("a", "b"), (one, other), ("a", "b")), (one, other))

    def test_wrong_columns(self):
        for value in NO_COLUMNS:
            for integers in ((), (1,), (1, 2), (1, 2, 3)):
                with self.subTest(value, integers=integers):
                    self.raises(InvalidOperation, project, value, integers, ())

    def test_wrong_integers(self):
        for value in NO_INTEGERS_FOR_TWO:
            for some in ((), ("a",), ("a", "b")):
                with self.subTest(value, some=some):
                    self.raises(InvalidOperation, project, ("a", "b"), value, some)
        self.raises(InvalidOperation, project, (), (1,), ())
        self.raises(InvalidOperation, project, (), [], ())

    def test_wrong_choice(self):
        for value in NO_COLUMNS + (("c",), ("a", "c"), ("aa",)):
            with self.subTest(value):
                self.raises(InvalidOperation, project, ("a", "b"), (1, 2), value)
        self.raises(InvalidOperation, project, (), (), ("a",))

    def test_values_of_all_kinds(self):
        for value in ALL:
            with self.subTest(value):
                if not is_columns(value):
                    self.raises(InvalidOperation, project, value, (), ())
                    self.raises(InvalidOperation, project, ("a", "b", "c"), (1, 2, 3), value)
                if value != ():
                    self.raises(InvalidOperation, project, (), value, ())
                self.raises(InvalidOperation, project, ("a",), (nested(value, 1),), ())

    def test_two_wrong_arguments(self):
        self.raises(InvalidOperation, project, ("b", "a"), (True, 2), ("a",))
        self.raises(InvalidOperation, project, ["a"], (1,), ["a"])
        self.raises(InvalidOperation, project, ("a",), [1], ("b",))
        self.raises(InvalidOperation, project, None, None, None)


class Joined(Case):

    def test_nothing_in_common(self):
        self.same(joined(("a", "c"), (1, 2), ("b",), (3,)), (("a", "b", "c"), (1, 3, 2)))
        self.same(joined(("b",), (3,), ("a", "c"), (1, 2)), (("a", "b", "c"), (1, 3, 2)))
        self.same(joined(("a",), (1,), (), ()), (("a",), (1,)))
        self.same(joined((), (), ("a",), (1,)), (("a",), (1,)))
        self.same(joined((), (), (), ()), ((), ()))

    def test_columns_that_agree(self):
        self.same(joined(("a", "b"), (1, 2), ("a", "b"), (1, 2)), (("a", "b"), (1, 2)))
        self.same(joined(("a", "b"), (1, 2), ("b", "c"), (2, 3)), (("a", "b", "c"), (1, 2, 3)))
        self.same(joined(("b", "c"), (2, 3), ("a", "c"), (1, 3)), (("a", "b", "c"), (1, 2, 3)))
        self.same(joined(("a",), (0,), ("a",), (0,)), (("a",), (0,)))

    def test_columns_that_differ(self):
        self.assertIsNone(joined(("a", "b"), (1, 2), ("a", "b"), (1, 3)))
        self.assertIsNone(joined(("a", "b"), (1, 2), ("a", "b"), (3, 2)))
        self.assertIsNone(joined(("a", "b"), (1, 2), ("a", "c"), (2, 1)))
        self.assertIsNone(joined(("a",), (0,), ("a",), (LONG,)))

    def test_integers(self):
        for one in NUMBERS:
            for other in NUMBERS:
                self.same(joined(("a",), (one,), ("b",), (other,)), (("a", "b"), (one, other)))
                expected = (("a",), (one,)) if one == other else None
                self.same(joined(("a",), (one,), ("a",), (other,)), expected)

    def test_many_columns(self):
        letters = tuple("abcdefghijklmnopqrstuvwxyz")
        first, second = letters[::2], letters[1::2]
        self.same(joined(first, tuple(range(13)), second, tuple(range(13, 26))),
                  (letters, tuple([at // 2 + 13 * (at % 2) for at in range(26)])))

    def test_each_wrong_argument(self):
        for value in NO_COLUMNS:
            for integers in ((), (1,), (1, 2), (1, 2, 3)):
                with self.subTest(value, integers=integers):
                    self.raises(InvalidOperation, joined, value, integers, ("c",), (1,))
                    self.raises(InvalidOperation, joined, ("c",), (1,), value, integers)
        for value in NO_INTEGERS_FOR_TWO:
            with self.subTest(value):
                self.raises(InvalidOperation, joined, ("a", "b"), value, ("c",), (1,))
                self.raises(InvalidOperation, joined, ("c",), (1,), ("a", "b"), value)

    def test_wrong_though_the_others_differ(self):
        self.raises(InvalidOperation, joined, ("a", "b"), (1, 2), ("a", "b"), (2, True))
        self.raises(InvalidOperation, joined, ("a", "b"), (1, True), ("a", "b"), (2, 1))
        self.raises(InvalidOperation, joined, ("a", "b"), (1, 1), ("a", "b"), (True, 1))

    def test_values_of_all_kinds(self):
        for value in ALL:
            with self.subTest(value):
                if not is_columns(value):
                    self.raises(InvalidOperation, joined, value, (), (), ())
                    self.raises(InvalidOperation, joined, (), (), value, ())
                if value != ():
                    self.raises(InvalidOperation, joined, (), value, (), ())
                    self.raises(InvalidOperation, joined, (), (), (), value)

    def test_two_wrong_arguments(self):
        self.raises(InvalidOperation, joined, ("b", "a"), (1, 2), ["a"], (1,))
        self.raises(InvalidOperation, joined, ("a",), [1], ("a",), (True,))
        self.raises(InvalidOperation, joined, None, None, None, None)

"""Stage 2: which scenes there are, made by dicts and by lines, and what they tell."""

from itertools import permutations

from fewtouched.base import scenes
from fewtouched.base.scenes import Scene
from fewtouched.errors import InvalidScene, UnknownName
from tests.values import ALL, Case, GOODS, NAMES, NOT_CHOICES, NOT_DICTS, NOT_NAMES, SHOP, has_hash

SIX_COLUMNS = {"a": ("p", "q", "r", "s"), "b": ("s", "t"), "c": ("u", "p")}
SIX_TABLES = {letter: () for letter in "abcdef"}


class Document(Case):

    def test_constants(self):
        self.same((scenes.MAX_TABLES, scenes.MAX_COLUMNS, scenes.MOST_COLUMNS), (6, 6, 4))

    def test_examples(self):
        self.assertEqual(
            [GOODS.lines[1], GOODS.columns, SHOP.held("order").changing, str(GOODS)],
            [("place", ("part", "shelf"), ("part",)), ("part", "shelf", "who"), ("buyer", "stock"),
             "scene of 3 tables, 3 columns"])
        self.assertEqual(
            [Scene.of(GOODS.lines) == GOODS, GOODS.freed("place").key_of("place"),
             SHOP.renamed("columns", {"who": "part", "part": "who"}).columns_of("buyer"), "who" in SHOP],
            [True, None, ("part",), False])

    def test_shop(self):
        self.same(SHOP.tables, ("buyer", "order", "stock"))
        self.same(SHOP.changing, ("buyer", "order", "stock"))
        self.same(SHOP.fixed, ())
        self.same(SHOP.columns, ("part", "who"))
        self.same(SHOP.lines, (("buyer", ("who",), "changing"), ("order", ("part", "who"), "changing"),
                               ("stock", ("part",), "changing")))

    def test_goods(self):
        self.same(GOODS.tables, ("order", "place", "stock"))
        self.same(GOODS.changing, ("order", "stock"))
        self.same(GOODS.fixed, ("place",))
        self.same(GOODS.columns, ("part", "shelf", "who"))
        self.same(GOODS.lines, (("order", ("part", "who"), "changing"), ("place", ("part", "shelf"), ("part",)),
                                ("stock", ("shelf",), "changing")))

    def test_goods_and_shop_told_in_later_stages(self):
        chain = Scene(changing={"r": ("a",)}, fixed={"s": ("a", "b"), "t": ("b", "c")},
                      keyed={"s": ("a",), "t": ("b",)})
        self.same(chain.lines, (("r", ("a",), "changing"), ("s", ("a", "b"), ("a",)), ("t", ("b", "c"), ("b",))))
        long = Scene(changing={"a": ("x",), "b": ("y",)}, fixed={"s": ("x", "z"), "u": ("y", "z")})
        self.same(long.with_key("s", ("x",)).with_key("u", ("z",)).lines,
                  (("a", ("x",), "changing"), ("b", ("y",), "changing"), ("s", ("x", "z"), ("x",)),
                   ("u", ("y", "z"), ("z",))))


class MadeByDicts(Case):

    def test_one_table(self):
        self.same(Scene(changing={"t": ()}).lines, (("t", (), "changing"),))
        self.same(Scene(fixed={"t": ()}).lines, (("t", (), None),))
        self.same(Scene(fixed={"t": ()}, keyed={"t": ()}).lines, (("t", (), ()),))
        self.same(Scene(changing={"t": ("b", "a")}).lines, (("t", ("a", "b"), "changing"),))
        self.same(Scene(changing=None, fixed={"t": ("a",)}, keyed=None).lines, (("t", ("a",), None),))
        self.same(Scene(changing={}, fixed={"t": ("a",)}, keyed={}).lines, (("t", ("a",), None),))

    def test_order_of_the_dicts_does_not_matter(self):
        lines = (("a", ("x",), None), ("b", ("x", "y"), ("y",)), ("c", (), "changing"), ("d", ("y",), "changing"))
        for at in (1, -1):
            made = Scene(changing=dict((("c", ()), ("d", ("y",)))[::at]),
                         fixed=dict((("a", ("x",)), ("b", ("x", "y")))[::at]), keyed={"b": ("y",)})
            self.same(made.lines, lines)

    def test_columns_in_any_order(self):
        for columns in permutations(("a", "b", "c", "d")):
            self.same(Scene(changing={"t": columns}).columns_of("t"), ("a", "b", "c", "d"))
            self.same(Scene(fixed={"t": columns}).columns_of("t"), ("a", "b", "c", "d"))

    def test_keys_in_any_order(self):
        columns = ("c", "a", "d", "b")
        for many in range(5):
            for key in permutations(columns, many):
                made = Scene(fixed={"t": columns}, keyed={"t": key})
                self.same(made.lines, (("t", ("a", "b", "c", "d"), tuple(sorted(key))),))
                self.same(made.key_of("t"), tuple(sorted(key)))

    def test_table_and_column_with_one_name(self):
        made = Scene(changing={"a": ("a", "b")}, fixed={"b": ("a",)}, keyed={"b": ("a",)})
        self.same(made.tables, ("a", "b"))
        self.same(made.columns, ("a", "b"))
        self.same(made.columns_of("b"), ("a",))

    def test_names(self):
        for name in NAMES:
            made = Scene(changing={name: (name,)})
            self.same(made.lines, ((name, (name,), "changing"),))

    def test_no_table(self):
        self.raises(InvalidScene, Scene)
        self.raises(InvalidScene, Scene, changing={})
        self.raises(InvalidScene, Scene, changing={}, fixed={}, keyed={})
        self.raises(InvalidScene, Scene, changing=None, fixed=None, keyed=None)

    def test_six_tables(self):
        self.assertEqual(len(Scene(changing=SIX_TABLES)), 6)
        self.assertEqual(len(Scene(fixed=SIX_TABLES)), 6)
        half, rest = {"a": (), "b": (), "c": ()}, {"d": (), "e": (), "f": ()}
        self.assertEqual(len(Scene(changing=half, fixed=rest, keyed=rest)), 6)
        self.raises(InvalidScene, Scene, changing={**SIX_TABLES, "g": ()})
        self.raises(InvalidScene, Scene, fixed={**SIX_TABLES, "g": ()})
        self.raises(InvalidScene, Scene, changing=half, fixed={**rest, "g": ()})

    def test_six_columns(self):
        self.same(Scene(changing=SIX_COLUMNS).columns, ("p", "q", "r", "s", "t", "u"))
        self.same(Scene(fixed=SIX_COLUMNS).columns, ("p", "q", "r", "s", "t", "u"))
        self.raises(InvalidScene, Scene, changing={**SIX_COLUMNS, "d": ("v",)})
        self.raises(InvalidScene, Scene, changing=SIX_COLUMNS, fixed={"d": ("v",)})
        self.raises(InvalidScene, Scene, fixed={**SIX_COLUMNS, "d": ("p", "v")})

    def test_four_columns_of_a_table(self):
        self.same(Scene(changing={"t": ("a", "b", "c", "d")}).columns, ("a", "b", "c", "d"))
        self.raises(InvalidScene, Scene, changing={"t": ("a", "b", "c", "d", "e")})
        self.raises(InvalidScene, Scene, fixed={"t": ("a", "b", "c", "d", "e")})
        self.raises(InvalidScene, Scene, fixed={"t": ("a", "b", "c", "d", "e")}, keyed={"t": ("a",)})

    def test_table_told_twice(self):
        self.raises(InvalidScene, Scene, changing={"t": ()}, fixed={"t": ()})
        self.raises(InvalidScene, Scene, changing={"t": ("a",)}, fixed={"t": ("a",), "u": ()}, keyed={"t": ("a",)})

    def test_keyed_tables_are_fixed_ones(self):
        self.raises(InvalidScene, Scene, changing={"t": ("a",)}, keyed={"t": ("a",)})
        self.raises(InvalidScene, Scene, fixed={"t": ("a",)}, keyed={"u": ("a",)})
        self.raises(InvalidScene, Scene, fixed={"t": ("a",)}, keyed={"t": ("a",), "u": ()})
        self.raises(InvalidScene, Scene, changing={"u": ()}, fixed={"t": ("a",)}, keyed={"u": ()})
        self.raises(InvalidScene, Scene, keyed={"t": ()})

    def test_columns_told_twice(self):
        for columns in (("a", "a"), ("a", "b", "a"), ("b", "a", "a"), ("a", "a", "a", "a")):
            self.raises(InvalidScene, Scene, changing={"t": columns})
            self.raises(InvalidScene, Scene, fixed={"t": columns})

    def test_strange_keys(self):
        for key in (("b",), ("a", "b"), ("a", "a"), ("t",), ("A",), ("",), (1,), (None,), (True,), (("a",),), ["a"],
                    [], {}, {"a": 1}, "a", "", "changing", None, True, False, 0, 1):
            with self.subTest(key):
                self.raises(InvalidScene, Scene, fixed={"t": ("a", "c")}, keyed={"t": key})

    def test_other_values_for_a_dict(self):
        for value in NOT_DICTS:
            if value is None:
                continue
            with self.subTest(value):
                self.raises(InvalidScene, Scene, changing=value)
                self.raises(InvalidScene, Scene, changing=value, fixed={"t": ()})
                self.raises(InvalidScene, Scene, changing={"t": ()}, fixed=value)
                self.raises(InvalidScene, Scene, changing={"t": ()}, keyed=value)
                self.raises(InvalidScene, Scene, fixed={"t": ()}, keyed=value)

    def test_other_values_for_a_table(self):
        for value in NOT_NAMES:
            if not has_hash(value):
                continue
            with self.subTest(value):
                self.raises(InvalidScene, Scene, changing={value: ()})
                self.raises(InvalidScene, Scene, fixed={value: ()})
                self.raises(InvalidScene, Scene, changing={"t": (), value: ()})
                self.raises(InvalidScene, Scene, fixed={value: (), "t": ()})
                self.raises(InvalidScene, Scene, fixed={"t": ()}, keyed={value: ()})
                self.raises(InvalidScene, Scene, fixed={"t": (), value: ()}, keyed={value: ()})

    def test_other_values_for_columns(self):
        for value in NOT_CHOICES:
            with self.subTest(value):
                self.raises(InvalidScene, Scene, changing={"t": value})
                self.raises(InvalidScene, Scene, fixed={"t": value})
                self.raises(InvalidScene, Scene, changing={"t": (), "u": value})
                self.raises(InvalidScene, Scene, fixed={"t": ()}, keyed={"t": value})
                self.raises(InvalidScene, Scene, fixed={"t": ("a", "b", "c")}, keyed={"t": value})

    def test_other_values_for_a_column(self):
        for value in NOT_NAMES:
            with self.subTest(value):
                self.raises(InvalidScene, Scene, changing={"t": (value,)})
                self.raises(InvalidScene, Scene, changing={"t": ("b", value)})
                self.raises(InvalidScene, Scene, fixed={"t": (value, "b")})
                self.raises(InvalidScene, Scene, fixed={"t": ("b",)}, keyed={"t": (value,)})
                self.raises(InvalidScene, Scene, fixed={"t": (value,)}, keyed={"t": (value,)})

    def test_passed_dicts_are_not_kept(self):
        changing, fixed, keyed = {"t": ("b", "a")}, {"u": ("a",), "v": ()}, {"u": ("a",)}
        made = Scene(changing=changing, fixed=fixed, keyed=keyed)
        self.assertEqual((changing, fixed, keyed), ({"t": ("b", "a")}, {"u": ("a",), "v": ()}, {"u": ("a",)}))
        lines = made.lines
        changing["w"] = ("c",)
        del fixed["v"]
        fixed["u"] = ("a", "d")
        keyed.clear()
        changing.clear()
        self.same(made.lines, lines)
        self.same(made.lines, (("t", ("a", "b"), "changing"), ("u", ("a",), ("a",)), ("v", (), None)))
        self.same((made.tables, made.changing, made.fixed, made.columns),
                  (("t", "u", "v"), ("t",), ("u", "v"), ("a", "b")))
        self.same((made.key_of("u"), made.columns_of("u"), made.columns_of("t")), (("a",), ("a",), ("a", "b")))


class MadeByLines(Case):

    def test_same_as_by_dicts(self):
        made = Scene(changing={"d": ("y", "x")}, fixed={"a": ("x",), "b": ("x", "y"), "c": ()},
                     keyed={"b": ("y", "x"), "c": ()})
        lines = (("d", ("x", "y"), "changing"), ("b", ("y", "x"), ("x", "y")), ("a", ("x",), None), ("c", (), ()))
        for order in permutations(lines):
            self.assertEqual(Scene.of(order), made)
            self.same(Scene.of(order).lines, made.lines)

    def test_columns_and_keys_in_any_order(self):
        columns = ("a", "b", "c", "d")
        for order in permutations(columns):
            for many in range(5):
                made = Scene.of((("t", order, order[:many]),))
                self.same(made.lines, (("t", columns, tuple(sorted(order[:many]))),))
            self.same(Scene.of((("t", order, None),)).lines, (("t", columns, None),))
            self.same(Scene.of((("t", order, "changing"),)).lines, (("t", columns, "changing"),))

    def test_lines_of_a_scene_make_it_again(self):
        for made in (SHOP, GOODS, GOODS.freed("place"), SHOP.held("order"), Scene(fixed={"t": ()}, keyed={"t": ()})):
            self.assertEqual(Scene.of(made.lines), made)
            self.assertEqual(Scene.of(made.lines[::-1]), made)

    def test_limits(self):
        six = tuple([(letter, (), "changing") for letter in "abcdef"])
        self.assertEqual(len(Scene.of(six)), 6)
        self.raises(InvalidScene, Scene.of, six + (("g", (), None),))
        self.raises(InvalidScene, Scene.of, ())
        wide = (("a", ("p", "q", "r", "s"), None), ("b", ("s", "t", "u"), "changing"))
        self.assertEqual(len(Scene.of(wide).columns), 6)
        self.raises(InvalidScene, Scene.of, wide + (("c", ("v",), ()),))
        self.raises(InvalidScene, Scene.of, (("t", ("a", "b", "c", "d", "e"), "changing"),))
        self.raises(InvalidScene, Scene.of, (("t", ("a", "b", "c", "d", "e"), None),))
        self.raises(InvalidScene, Scene.of, (("t", ("a", "b", "c", "d", "e"), ("a",)),))

    def test_table_told_twice(self):
        for key in ("changing", None, (), ("a",)):
            self.raises(InvalidScene, Scene.of, (("t", ("a",), key), ("t", ("a",), key)))
            self.raises(InvalidScene, Scene.of, (("t", ("a",), key), ("t", (), "changing")))
            self.raises(InvalidScene, Scene.of, (("t", (), None), ("u", (), None), ("t", ("a",), key)))

    def test_keys(self):
        self.same(Scene.of((("t", ("a",), ()),)).key_of("t"), ())
        for key in (("b",), ("a", "b"), ("a", "a"), ("t",), ("changing",), ["a"], [], {}, "a", "", "fixed", "Changing",
                    "changing ", True, False, 0, 1, SHOP):
            with self.subTest(key):
                self.raises(InvalidScene, Scene.of, (("t", ("a",), key),))

    def test_other_values_for_the_lines(self):
        for value in ALL:
            if value == (("a", (), None),):
                continue
            with self.subTest(value):
                self.raises(InvalidScene, Scene.of, value)
        self.raises(InvalidScene, Scene.of, list(GOODS.lines))
        self.raises(InvalidScene, Scene.of, GOODS)
        self.raises(InvalidScene, Scene.of, {line: True for line in GOODS.lines})

    def test_other_values_for_a_line(self):
        for value in ALL:
            if value in (("a", (), None), ("a", (), "changing")):
                continue
            with self.subTest(value):
                self.raises(InvalidScene, Scene.of, (value,))
                self.raises(InvalidScene, Scene.of, (("t", (), None), value))
                self.raises(InvalidScene, Scene.of, (value, ("t", (), None)))
        self.raises(InvalidScene, Scene.of, (["t", (), None],))
        self.raises(InvalidScene, Scene.of, (("t", ()),))
        self.raises(InvalidScene, Scene.of, (("t", (), None, None),))
        self.raises(InvalidScene, Scene.of, ("t", (), None))

    def test_other_values_for_a_table_or_a_column(self):
        for value in NOT_NAMES:
            with self.subTest(value):
                self.raises(InvalidScene, Scene.of, ((value, (), None),))
                self.raises(InvalidScene, Scene.of, (("t", (), None), (value, (), None)))
                self.raises(InvalidScene, Scene.of, (("t", (value,), None),))
                self.raises(InvalidScene, Scene.of, (("t", ("a", value), "changing"),))
                self.raises(InvalidScene, Scene.of, (("t", ("a",), (value,)),))

    def test_other_values_for_columns_or_a_key(self):
        for value in NOT_CHOICES:
            with self.subTest(value):
                self.raises(InvalidScene, Scene.of, (("t", value, None),))
                self.raises(InvalidScene, Scene.of, (("t", value, "changing"),))
                self.raises(InvalidScene, Scene.of, (("t", value, ()),))
                if value is not None and value != "changing":
                    self.raises(InvalidScene, Scene.of, (("t", ("a", "b", "c"), value),))

    def test_every_key_of_lines_is_either_kind(self):
        made = Scene.of((("a", ("x",), "changing"), ("b", ("x",), None), ("c", ("x",), ()), ("d", ("x",), ("x",))))
        self.same(made.changing, ("a",))
        self.same(made.fixed, ("b", "c", "d"))
        self.same(tuple([made.key_of(table) for table in made.tables]), (None, None, (), ("x",)))


class Told(Case):
    """Properties, columns_of, key_of, and what Python asks of a scene."""

    def test_ascending(self):
        made = Scene(changing={"m": ("z", "b"), "c": ("y",)}, fixed={"z": ("a",), "a": ("z",), "d": ()},
                     keyed={"z": ()})
        self.same(made.tables, ("a", "c", "d", "m", "z"))
        self.same(made.changing, ("c", "m"))
        self.same(made.fixed, ("a", "d", "z"))
        self.same(made.columns, ("a", "b", "y", "z"))
        self.same(made.lines, (("a", ("z",), None), ("c", ("y",), "changing"), ("d", (), None),
                               ("m", ("b", "z"), "changing"), ("z", ("a",), ())))
        self.assertEqual(list(made), ["a", "c", "d", "m", "z"])

    def test_longer_names_in_order(self):
        made = Scene(changing={"ab": (), "b": (), "a": (), "aaa": ()})
        self.same(made.tables, ("a", "aaa", "ab", "b"))

    def test_without_columns(self):
        made = Scene(changing={"t": ()})
        self.same((made.columns, made.fixed, made.changing), ((), (), ("t",)))
        self.assertEqual(str(made), "scene of 1 tables, 0 columns")

    def test_columns_of_and_key_of(self):
        self.same(GOODS.columns_of("order"), ("part", "who"))
        self.same(GOODS.columns_of("place"), ("part", "shelf"))
        self.same(GOODS.columns_of("stock"), ("shelf",))
        self.same(GOODS.key_of("place"), ("part",))
        self.assertIsNone(GOODS.key_of("order"))
        self.assertIsNone(GOODS.with_key("place", None).key_of("place"))
        self.same(Scene(fixed={"t": ("a",)}, keyed={"t": ()}).key_of("t"), ())

    def test_unknown_tables(self):
        for value in ALL + ("who", "part", "shelf", "buyer", "ORDER"):
            with self.subTest(value):
                self.raises_with(UnknownName, "name", value, GOODS.columns_of, value)
                self.raises_with(UnknownName, "name", value, GOODS.key_of, value)

    def test_in(self):
        for table in ("order", "place", "stock"):
            self.assertIs(table in GOODS, True)
            self.assertIs((table,) in GOODS, False)
            self.assertIs([table] in GOODS, False)
        for value in ALL + ("who", "part", "shelf", "buyer", "ORDER", "changing", GOODS.lines, GOODS.lines[0]):
            with self.subTest(value):
                self.assertIs(value in GOODS, False)
                self.assertIs(value not in GOODS, True)

    def test_len_and_iteration(self):
        self.assertEqual((len(GOODS), len(SHOP), len(Scene(fixed={"t": ()}))), (3, 3, 1))
        self.assertEqual(list(GOODS), ["order", "place", "stock"])
        self.assertEqual(tuple(SHOP), SHOP.tables)
        self.assertEqual([pair for pair in zip(SHOP, SHOP)], [(table, table) for table in SHOP.tables])

    def test_str(self):
        self.assertEqual(str(SHOP), "scene of 3 tables, 2 columns")
        self.assertEqual(str(Scene(changing=SIX_COLUMNS)), "scene of 3 tables, 6 columns")
        self.assertEqual(str(Scene(changing={"t": ("a",)})), "scene of 1 tables, 1 columns")
        self.assertEqual(str(Scene(fixed=SIX_TABLES)), "scene of 6 tables, 0 columns")

    def test_equal(self):
        self.assertIs(SHOP == Scene.of(SHOP.lines), True)
        self.assertIs(SHOP != Scene.of(SHOP.lines), False)
        self.assertIs(SHOP == SHOP, True)
        others = (GOODS, SHOP.held("stock"), SHOP.without("stock"), SHOP.with_table("more", ()),
                  SHOP.renamed("tables", {"stock": "store"}), SHOP.renamed("columns", {"who": "whom"}),
                  SHOP.held("buyer"), SHOP.held("buyer").with_key("buyer", ()),
                  SHOP.held("buyer").with_key("buyer", ("who",)))
        for at, one in enumerate(others):
            self.assertIs(one == SHOP, False)
            self.assertIs(SHOP == one, False)
            self.assertIs(one != SHOP, True)
            for place, other in enumerate(others):
                self.assertIs(one == other, at == place)
                self.assertIs(one != other, at != place)

    def test_equal_with_other_values(self):
        for value in ALL + (SHOP.lines, SHOP.tables, str(SHOP)):
            if isinstance(value, Scene):
                continue
            with self.subTest(value):
                self.assertIs(Scene(changing={"t": ()}) == value, False)
                self.assertIs(Scene(changing={"t": ()}) != value, True)
                self.assertIs(value == SHOP, False)
                self.assertIs(value != SHOP, True)

    def test_cannot_be_set(self):
        for name in ("tables", "changing", "fixed", "columns", "lines"):
            self.assertRaises(AttributeError, setattr, SHOP, name, ())

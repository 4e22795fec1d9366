"""Stage 2: the scenes that a scene's methods return."""

from itertools import combinations, product
from random import Random

from fewtouched.base.scenes import Scene
from fewtouched.errors import InvalidOperation, InvalidScene, UnknownName
from tests.values import ALL, Case, GOODS, NOT_CHOICES, NOT_DICTS, NOT_NAMES, SHOP, has_hash

# A table of each kind: one that changes, fixed ones without a key, with one, with the key () and with all columns.
MIXED = Scene(changing={"move": ("a", "b"), "more": ("c",)},
              fixed={"still": ("a",), "one": ("a", "b"), "none": ("b",), "every": ("b", "c")},
              keyed={"one": ("b",), "none": (), "every": ("c", "b")})
LINES = {line[0]: line for line in MIXED.lines}
UNKNOWN = ALL + ("order ", "stil", "stills", "c", "MOVE", ("move",), ["move"], {"move": 1})


def line_of(scene, table):
    """The line of a table, found in the lines."""
    return dict((line[0], line) for line in scene.lines)[table]


class Changed(Case):
    """A test at whose end the scenes that all tests share are as before."""

    def setUp(self):
        self.before = [(scene, scene.lines, str(scene)) for scene in (MIXED, SHOP, GOODS)]

    def tearDown(self):
        for scene, lines, text in self.before:
            self.same(scene.lines, lines)
            self.assertEqual(str(scene), text)
            self.same(scene.tables, tuple([line[0] for line in lines]))
            self.same(scene.changing, tuple([line[0] for line in lines if line[2] == "changing"]))
            self.same(scene.fixed, tuple([line[0] for line in lines if line[2] != "changing"]))
            self.same(scene.columns, tuple(sorted({name for line in lines for name in line[1]})))

    def made(self, scene, lines):
        """The scene has just these lines, in every way in which it tells them."""
        self.assertIs(type(scene), Scene)
        lines = tuple(sorted(lines, key=lambda line: line[0]))
        self.same(scene.lines, lines)
        self.assertEqual(scene, Scene.of(lines))
        self.same(scene.tables, tuple([line[0] for line in lines]))
        self.same(scene.changing, tuple([line[0] for line in lines if line[2] == "changing"]))
        self.same(scene.fixed, tuple([line[0] for line in lines if line[2] != "changing"]))
        self.same(scene.columns, tuple(sorted({name for line in lines for name in line[1]})))
        for table, columns, key in lines:
            self.same(scene.columns_of(table), columns)
            self.same(scene.key_of(table), None if key == "changing" else key)

    def unknown_first(self, call):
        """The first value that is no table is told, whatever stands around it."""
        for value in UNKNOWN:
            with self.subTest(value):
                self.raises_with(UnknownName, "name", value, call, value)
                self.raises_with(UnknownName, "name", value, call, "move", value)
                self.raises_with(UnknownName, "name", value, call, value, "move")
                self.raises_with(UnknownName, "name", value, call, "one", "move", value, "nothing", 5)
        self.raises_with(UnknownName, "name", "zz", call, "zz", "aa")


class Held(Changed):

    def test_one_table(self):
        self.made(MIXED.held("move"), {**LINES, "move": ("move", ("a", "b"), None)}.values())
        self.made(GOODS.held("stock"), (*GOODS.lines[:2], ("stock", ("shelf",), None)))

    def test_several_and_repeats(self):
        both = {**LINES, "move": ("move", ("a", "b"), None), "more": ("more", ("c",), None)}.values()
        for tables in (("move", "more"), ("more", "move"), ("more", "more", "move"), ("move", "one", "more", "move")):
            self.made(MIXED.held(*tables), both)
        self.made(SHOP.held("buyer", "order", "stock"), [(name, columns, None) for name, columns, _ in SHOP.lines])

    def test_none(self):
        self.made(MIXED.held(), MIXED.lines)
        self.assertEqual(MIXED.held(), MIXED)

    def test_fixed_ones_stay(self):
        for many in range(5):
            for tables in combinations(("still", "one", "none", "every"), many):
                self.made(MIXED.held(*tables), MIXED.lines)
                self.made(MIXED.held(*tables, *tables), MIXED.lines)

    def test_held_again(self):
        self.made(MIXED.held("move").held("move"), MIXED.held("move").lines)
        keyed = MIXED.held("move").with_key("move", ("a",))
        self.made(keyed.held("move"), keyed.lines)

    def test_unknown(self):
        self.unknown_first(MIXED.held)


class Freed(Changed):

    def test_each_fixed_table(self):
        for table in MIXED.fixed:
            freed = MIXED.freed(table)
            self.made(freed, {**LINES, table: (table, LINES[table][1], "changing")}.values())
            self.assertIsNone(freed.key_of(table))

    def test_held_behind_it_has_no_key(self):
        self.made(GOODS.freed("place").held("place"), GOODS.with_key("place", None).lines)
        self.made(MIXED.freed("none").held("none"), {**LINES, "none": ("none", ("b",), None)}.values())

    def test_several_and_repeats(self):
        both = {**LINES, "one": ("one", ("a", "b"), "changing"), "still": ("still", ("a",), "changing")}.values()
        for tables in (("one", "still"), ("still", "one"), ("one", "one", "still"), ("move", "still", "one", "move")):
            self.made(MIXED.freed(*tables), both)
        self.made(MIXED.freed(*MIXED.tables), [(name, columns, "changing") for name, columns, _ in MIXED.lines])

    def test_none_and_such_as_change(self):
        for tables in ((), ("move",), ("more",), ("more", "move"), ("move", "move")):
            self.made(MIXED.freed(*tables), MIXED.lines)

    def test_unknown(self):
        self.unknown_first(MIXED.freed)


class WithTable(Changed):

    def test_kinds(self):
        for key in ("changing", None, (), ("who",), ("who", "more"), ("more", "who")):
            expected = tuple(sorted(key)) if isinstance(key, tuple) else key
            made = SHOP.with_table("what", ("who", "more"), key=key)
            self.made(made, (*SHOP.lines, ("what", ("more", "who"), expected)))

    def test_changes_if_nothing_is_told(self):
        self.made(SHOP.with_table("what", ()), (*SHOP.lines, ("what", (), "changing")))
        self.made(GOODS.with_table("aa", ("who", "new")), (("aa", ("new", "who"), "changing"), *GOODS.lines))

    def test_keys_of_others_stay(self):
        little = MIXED.without("still")
        self.made(little.with_table("zz", ("a",)), (*little.lines, ("zz", ("a",), "changing")))
        self.made(little.with_table("zz", ("a",), key=None), (*little.lines, ("zz", ("a",), None)))

    def test_there_already(self):
        for key in ("changing", None, (), ("part",)):
            for columns in ((), ("part",), ("part", "who")):
                self.raises(InvalidScene, GOODS.with_table, "order", columns, key=key)
                self.raises(InvalidScene, GOODS.with_table, "place", columns, key=key)
        for table, columns, key in GOODS.lines:
            self.raises(InvalidScene, GOODS.with_table, table, columns, key=key)

    def test_limits(self):
        self.assertEqual(len(MIXED), 6)
        self.raises(InvalidScene, MIXED.with_table, "zz", ())
        self.raises(InvalidScene, MIXED.with_table, "zz", (), key=None)
        self.assertEqual(len(SHOP.with_table("t", ("a", "b", "c", "d")).columns), 6)
        self.raises(InvalidScene, SHOP.with_table("t", ("a", "b", "c", "d")).with_table, "u", ("e",))
        self.raises(InvalidScene, SHOP.with_table("t", ("a", "b", "c")).with_table, "u", ("d", "e"))
        self.raises(InvalidScene, SHOP.with_table, "t", ("a", "b", "c", "part", "who"))

    def test_wrong_values(self):
        for value in NOT_NAMES:
            with self.subTest(value):
                self.raises(InvalidScene, SHOP.with_table, value, ())
                self.raises(InvalidScene, SHOP.with_table, value, ("a",), key=("a",))
                self.raises(InvalidScene, SHOP.with_table, "t", (value,))
                self.raises(InvalidScene, SHOP.with_table, "t", ("a",), key=(value,))
        for value in NOT_CHOICES:
            with self.subTest(value):
                self.raises(InvalidScene, SHOP.with_table, "t", value)
                self.raises(InvalidScene, SHOP.with_table, "t", value, key=None)
                self.raises(InvalidScene, SHOP.with_table, value, value, key=value)
                if value is not None and value != "changing":
                    self.raises(InvalidScene, SHOP.with_table, "t", ("a", "b", "c"), key=value)
        self.raises(InvalidScene, SHOP.with_table, "t", ("a",), key=("b",))
        self.raises(InvalidScene, SHOP.with_table, "t", ("a", "a"))
        self.raises(InvalidScene, SHOP.with_table, "t", ("a", "b"), key=("a", "a"))
        self.raises(InvalidScene, SHOP.with_table, "t", (), key=("who",))


class Without(Changed):

    def test_one_table(self):
        for table in MIXED.tables:
            self.made(MIXED.without(table), [line for line in MIXED.lines if line[0] != table])
        self.same(GOODS.without("stock").columns, ("part", "shelf", "who"))
        self.same(GOODS.without("order").columns, ("part", "shelf"))

    def test_several_and_repeats(self):
        for many in range(6):
            for tables in combinations(MIXED.tables, many):
                rest = [line for line in MIXED.lines if line[0] not in tables]
                self.made(MIXED.without(*tables), rest)
                self.made(MIXED.without(*tables[::-1], *tables), rest)

    def test_none(self):
        self.made(MIXED.without(), MIXED.lines)
        self.made(GOODS.without(), GOODS.lines)

    def test_none_left(self):
        self.raises(InvalidScene, MIXED.without, *MIXED.tables)
        self.raises(InvalidScene, MIXED.without, *MIXED.tables[::-1], "one")
        self.raises(InvalidScene, Scene(fixed={"t": ("a",)}).without, "t")

    def test_unknown(self):
        self.unknown_first(MIXED.without)
        self.raises_with(UnknownName, "name", "zz", MIXED.without, *MIXED.tables, "zz")
        self.raises_with(UnknownName, "name", ["one"], MIXED.without, *MIXED.tables, ["one"], "zz")


class WithKey(Changed):

    def test_key_for_one_without(self):
        columns = ("a", "b", "c")
        scene = Scene(changing={"u": ("a",)}, fixed={"t": columns, "v": ("a",)}, keyed={"v": ()})
        for key in ((), ("a",), ("c",), ("a", "c"), ("c", "a"), ("c", "b", "a"), columns):
            self.made(scene.with_key("t", key), (("t", columns, tuple(sorted(key))), *scene.lines[1:]))
        self.made(scene, (("t", columns, None), ("u", ("a",), "changing"), ("v", ("a",), ())))
        bare = Scene(fixed={"t": ()})
        self.made(bare.with_key("t", ()), (("t", (), ()),))

    def test_none_takes_the_key_away(self):
        for table in ("one", "none", "every"):
            self.made(MIXED.with_key(table, None), {**LINES, table: (table, LINES[table][1], None)}.values())
            self.made(MIXED.with_key(table, None).with_key(table, LINES[table][2]), MIXED.lines)

    def test_unknown(self):
        for value in UNKNOWN:
            for key in (None, (), ("a",), ["a"], 5):
                with self.subTest(value, key=key):
                    self.raises_with(UnknownName, "name", value, MIXED.with_key, value, key)

    def test_no_key_for_these_columns(self):
        strange = NOT_CHOICES + (("c",), ("a", "c"), ("still",), ("a", "b", "c"), "changing")
        for value in strange:
            if value is None:
                continue
            for table in ("still", "one", "move"):
                with self.subTest(value, table=table):
                    self.raises(InvalidScene, MIXED.with_key, table, value)
        self.raises(InvalidScene, MIXED.with_key, "one", ("a", "a"))
        self.raises(InvalidScene, MIXED.with_key, "still", ("a", "a"))
        self.raises(InvalidScene, MIXED.with_key, "still", ("b",))
        self.raises(InvalidScene, MIXED.with_key, "none", ("b", "a"))

    def test_table_that_changes(self):
        for key in (None, (), ("a",), ("b", "a")):
            self.raises(InvalidOperation, MIXED.with_key, "move", key)
        self.raises(InvalidScene, MIXED.with_key, "move", ("c",))
        self.raises(InvalidScene, MIXED.with_key, "move", ["a"])

    def test_key_already(self):
        for table in ("one", "none", "every"):
            for key in ((), LINES[table][2], LINES[table][1]):
                self.raises(InvalidOperation, MIXED.with_key, table, key)

    def test_no_key_to_take_away(self):
        self.raises(InvalidOperation, MIXED.with_key, "still", None)
        self.raises(InvalidOperation, MIXED.with_key("one", None).with_key, "one", None)


class Renamed(Changed):

    def test_tables(self):
        made = MIXED.renamed("tables", {"one": "zz", "move": "aa"})
        lines = {**LINES, "one": ("zz", ("a", "b"), ("b",)), "move": ("aa", ("a", "b"), "changing")}
        self.made(made, lines.values())
        self.same(made.tables, ("aa", "every", "more", "none", "still", "zz"))

    def test_columns(self):
        made = GOODS.renamed("columns", {"part": "zz", "who": "aa"})
        self.made(made, (("order", ("aa", "zz"), "changing"), ("place", ("shelf", "zz"), ("zz",)),
                         ("stock", ("shelf",), "changing")))
        self.same(made.columns, ("aa", "shelf", "zz"))

    def test_keys_are_ascending_behind_it(self):
        made = MIXED.renamed("columns", {"b": "x", "c": "d"})
        self.same(made.key_of("every"), ("d", "x"))
        self.same(made.columns_of("every"), ("d", "x"))
        self.same(made.key_of("none"), ())
        self.same(made.key_of("one"), ("x",))

    def test_exchanged(self):
        made = SHOP.renamed("tables", {"buyer": "stock", "stock": "buyer"})
        self.made(made, (("buyer", ("part",), "changing"), SHOP.lines[1], ("stock", ("who",), "changing")))
        made = SHOP.renamed("columns", {"who": "part", "part": "who"})
        self.made(made, (("buyer", ("part",), "changing"), SHOP.lines[1], ("stock", ("who",), "changing")))
        self.made(MIXED.renamed("columns", {"a": "b", "b": "c", "c": "a"}),
                  (("every", ("a", "c"), ("a", "c")), ("more", ("a",), "changing"), ("move", ("b", "c"), "changing"),
                   ("none", ("c",), ()), ("one", ("b", "c"), ("c",)), ("still", ("b",), None)))

    def test_one_name_follows_another(self):
        self.made(SHOP.renamed("columns", {"who": "whom", "part": "who"}),
                  (("buyer", ("whom",), "changing"), ("order", ("who", "whom"), "changing"),
                   ("stock", ("who",), "changing")))
        self.same(SHOP.renamed("tables", {"buyer": "stock", "stock": "store"}).columns_of("stock"), ("who",))

    def test_all_six(self):
        new = dict(zip(MIXED.tables, ("f", "e", "d", "c", "b", "a")))
        self.made(MIXED.renamed("tables", new), [(new[name], columns, key) for name, columns, key in MIXED.lines])

    def test_nothing_else(self):
        for kind, names in (("tables", MIXED.tables), ("columns", MIXED.columns)):
            self.made(MIXED.renamed(kind, {}), MIXED.lines)
            self.made(MIXED.renamed(kind, {name: name for name in names}), MIXED.lines)

    def test_names_of_the_other_kind(self):
        self.made(SHOP.renamed("tables", {"stock": "part"}),
                  (SHOP.lines[0], SHOP.lines[1], ("part", ("part",), "changing")))
        self.made(SHOP.renamed("columns", {"part": "stock"}),
                  (SHOP.lines[0], ("order", ("stock", "who"), "changing"), ("stock", ("stock",), "changing")))
        self.raises_with(UnknownName, "name", "part", SHOP.renamed, "tables", {"part": "zz"})
        self.raises_with(UnknownName, "name", "stock", SHOP.renamed, "columns", {"stock": "zz"})

    def test_passed_dict_is_not_kept(self):
        names = {"stock": "store"}
        made = SHOP.renamed("tables", names)
        self.assertEqual(names, {"stock": "store"})
        names["stock"] = "other"
        names["order"] = "more"
        self.same(made.tables, ("buyer", "order", "store"))

    def test_kind(self):
        for value in ALL + ("table", "column", "Tables", "tables ", "", ("tables",), ["columns"]):
            if value in ("tables", "columns"):
                continue
            for names in ({}, {"stock": "store"}, {"zz": 1}, {1: 2}, None, ("stock",)):
                with self.subTest(value, names=names):
                    self.raises(InvalidOperation, SHOP.renamed, value, names)

    def test_names_are_a_dict_from_strings(self):
        for value in NOT_DICTS + ((("stock", "store"),), [("stock", "store")]):
            for kind in ("tables", "columns"):
                with self.subTest(value, kind=kind):
                    self.raises(InvalidOperation, SHOP.renamed, kind, value)
        for value in ALL:
            if has_hash(value) and not isinstance(value, str):
                for names in ({value: "zz"}, {"stock": "store", value: "zz"}, {"zz": "a", value: 5}, {value: 5}):
                    with self.subTest(value, names=names):
                        self.raises(InvalidOperation, SHOP.renamed, "tables", names)
                        self.raises(InvalidOperation, SHOP.renamed, "columns", names)

    def test_least_unknown_key(self):
        unknown = self.raises_with
        unknown(UnknownName, "name", "aa", SHOP.renamed, "tables", {"zz": "b", "aa": "c", "mm": "d"})
        unknown(UnknownName, "name", "aa", SHOP.renamed, "columns", {"zz": "b", "aa": "c", "part": "d"})
        unknown(UnknownName, "name", "zz", SHOP.renamed, "tables", {"zz": "b", "buyer": "c", "order": "d"})
        unknown(UnknownName, "name", "", SHOP.renamed, "tables", {"aa": "b", "": "c", "A": "d"})
        unknown(UnknownName, "name", "A", SHOP.renamed, "columns", {"aa": "b", "A": "d", "who": "x"})
        unknown(UnknownName, "name", " a", SHOP.renamed, "columns", {"A": 1, " a": 2, "who": 3})

    def test_unknown_goes_ahead_of_new_names(self):
        for new in (5, "A", "order", None, ["b"]):
            self.raises_with(UnknownName, "name", "zz", SHOP.renamed, "tables", {"buyer": new, "zz": new})
            self.raises_with(UnknownName, "name", "zz", SHOP.renamed, "tables", {"zz": new, "buyer": new})

    def test_new_name_is_none(self):
        for value in NOT_NAMES:
            with self.subTest(value):
                self.raises(InvalidScene, SHOP.renamed, "tables", {"stock": value})
                self.raises(InvalidScene, SHOP.renamed, "columns", {"part": value})
                self.raises(InvalidScene, SHOP.renamed, "columns", {"part": value, "who": "part"})
                self.raises(InvalidScene, SHOP.renamed, "tables", {"order": "a", "buyer": value, "stock": value})

    def test_two_names_become_one(self):
        for names in ({"stock": "order"}, {"stock": "zz", "order": "zz"}, {"stock": "order", "order": "order"},
                      {"stock": "buyer", "buyer": "order"}, {"stock": "zz", "order": "zz", "buyer": "zz"}):
            self.raises(InvalidScene, SHOP.renamed, "tables", names)
        for names in ({"part": "who"}, {"part": "zz", "who": "zz"}, {"who": "part", "part": "part"}):
            self.raises(InvalidScene, SHOP.renamed, "columns", names)
            self.raises(InvalidScene, GOODS.renamed, "columns", names)
        self.raises(InvalidScene, Scene(changing={"t": ("a",), "u": ("b",)}).renamed, "columns", {"a": "b"})


class Together(Changed):
    """one | other"""

    def test_different_tables(self):
        one, other = MIXED.without("one", "none"), MIXED.without("still", "every", "move", "more")
        self.made(one | other, MIXED.lines)
        self.made(other | one, MIXED.lines)
        self.made(GOODS | Scene(changing={"aa": ("x", "part")}), (("aa", ("part", "x"), "changing"), *GOODS.lines))

    def test_common_tables_with_the_same_line(self):
        choices = [tables for many in range(4) for tables in combinations(MIXED.tables, many)]
        for gone in choices:
            for missing in choices:
                self.made(MIXED.without(*gone) | MIXED.without(*missing),
                          [line for line in MIXED.lines if line[0] not in gone or line[0] not in missing])

    def test_common_table_with_another_line(self):
        others = (GOODS.freed("place"), GOODS.with_key("place", None), GOODS.held("stock"),
                  Scene(changing={"stock": ("part",)}), Scene(changing={"stock": ()}),
                  Scene(fixed={"place": ("part", "shelf")}, keyed={"place": ("shelf",)}),
                  Scene(fixed={"place": ("part",)}, keyed={"place": ("part",)}), SHOP)
        for other in others:
            self.raises(InvalidOperation, lambda: GOODS | other)
            self.raises(InvalidOperation, lambda: other | GOODS)

    def test_beyond_the_limits(self):
        letters = Scene(changing={letter: () for letter in "uvwx"})
        self.assertEqual(len(GOODS | letters.without("u")), 6)
        self.raises(InvalidScene, lambda: GOODS | letters)
        self.raises(InvalidScene, lambda: letters | GOODS)
        wide = Scene(fixed={"t": ("p", "q", "r"), "u": ("s",)})
        self.assertEqual(len((GOODS | wide.without("u")).columns), 6)
        self.raises(InvalidScene, lambda: GOODS | wide)
        self.raises(InvalidScene, lambda: wide | GOODS)

    def test_another_line_goes_ahead_of_the_limits(self):
        many = Scene(changing={"stock": ("part",), "a": (), "b": (), "c": (), "d": ()})
        self.raises(InvalidOperation, lambda: GOODS | many)
        self.raises(InvalidOperation, lambda: many | GOODS)
        wide = Scene(changing={"stock": ("a", "b", "c", "d")})
        self.raises(InvalidOperation, lambda: GOODS | wide)

    def test_other_values(self):
        for value in ALL + (SHOP.lines, SHOP.tables, "stock", {"stock": ("part",)}):
            if isinstance(value, Scene):
                continue
            with self.subTest(value):
                self.raises(InvalidOperation, lambda: SHOP | value)


class AgainstAModel(Changed):
    """Scenes made at random, with the same seed each time, against dicts of lines."""

    def some_lines(self, random):
        lines = {}
        for table in random.sample(("ta", "tb", "tc", "a", "b", "c", "td"), random.randint(1, 6)):
            columns = tuple(random.sample(("a", "b", "c", "x", "y", "z"), random.randint(0, 4)))
            key = random.choice(("changing", None, tuple(random.sample(columns, random.randint(0, len(columns))))))
            lines[table] = (table, columns, key)
        return lines

    def sorted_line(self, line):
        table, columns, key = line
        return table, tuple(sorted(columns)), tuple(sorted(key)) if isinstance(key, tuple) else key

    def test_made_both_ways(self):
        random = Random(1)
        for _ in range(300):
            lines = self.some_lines(random)
            expected = [self.sorted_line(line) for line in lines.values()]
            by_dicts = Scene(changing={name: line[1] for name, line in lines.items() if line[2] == "changing"},
                             fixed={name: line[1] for name, line in lines.items() if line[2] != "changing"},
                             keyed={name: line[2] for name, line in lines.items() if isinstance(line[2], tuple)})
            self.made(by_dicts, expected)
            self.made(Scene.of(tuple(lines.values())), expected)

    def test_held_freed_without(self):
        random = Random(2)
        for _ in range(300):
            scene = Scene.of(tuple(self.some_lines(random).values()))
            tables = random.choices(scene.tables, k=random.randint(0, 4))
            self.made(scene.held(*tables), [
                (name, columns, None if name in tables and key == "changing" else key)
                for name, columns, key in scene.lines])
            self.made(scene.freed(*tables), [
                (name, columns, "changing" if name in tables else key) for name, columns, key in scene.lines])
            if set(tables) != set(scene.tables):
                self.made(scene.without(*tables), [line for line in scene.lines if line[0] not in tables])

    def test_renamed(self):
        random = Random(3)
        for _ in range(300):
            scene = Scene.of(tuple(self.some_lines(random).values()))
            new = random.sample(("a", "b", "c", "x", "y", "z", "ta", "new"), 6)
            tables, columns = dict(zip(scene.tables, new)), dict(zip(scene.columns, new))
            self.made(scene.renamed("tables", tables), [(tables[line[0]], *line[1:]) for line in scene.lines])
            self.made(scene.renamed("columns", columns), [
                self.sorted_line((line[0], tuple([columns[name] for name in line[1]]),
                                  tuple([columns[name] for name in line[2]]) if isinstance(line[2], tuple) else line[2]))
                for line in scene.lines])

    def test_equal_only_with_the_same_lines(self):
        keys = ("changing", None, (), ("a",))
        made = [Scene.of((("t", ("a",), key), ("u", columns, other)))
                for key, columns, other in product(keys, ((), ("a",), ("b",)), ("changing", None, ()))]
        for one in made:
            for other in made:
                self.assertIs(one == other, one.lines == other.lines)
                self.assertIs(one != other, one.lines != other.lines)
        self.assertEqual(len({scene.lines for scene in made}), len(made))

"""Stage 8: bridges, and which roles they strain."""

from itertools import product

from fewtouched.base.scenes import Scene
from fewtouched.books.pieces import pieces
from fewtouched.errors import InvalidOperation, InvalidRole, InvalidScene, UnknownName
from fewtouched.strain.bridges import bridge, bridges, is_bridge, is_served, strained_tables, strains
from tests.arguments import Argument, check_errors
from tests.oracle import orders, roles_of, slow_bridges, slow_names, slow_strained, some_scenes
from tests.values import CHAIN, Case, EVERY, FAR, GOODS, NO_SCENES, SHOP, no_role, no_table

# From a door to a table by five tables, and in a ring with shorter ways.
FIVE = Scene(changing={"z": ("f",)}, fixed={"e": ("a", "b"), "d": ("b", "c"), "c": ("c", "d"), "b": ("d", "e"),
                                            "a": ("e", "f")})
RING = Scene(changing={"one": ("a",), "two": ("b",)},
             fixed={"q": ("a", "c"), "p": ("b", "c"), "s": ("a", "b"), "r": ("a", "b", "c")})


def pairs_of(scene):
    """All pairs of a role and a table that can have bridges."""
    return [(role, table) for role in roles_of(scene) for table in scene.changing if role != table]


class Document(Case):

    def test_examples(self):
        self.assertEqual(
            [bridge(SHOP, "buyer", "stock"), strains(SHOP), is_served(SHOP, "order"),
             strained_tables(SHOP, ("part",)), is_served(SHOP, ("part", "who"))],
            [("order",), (("buyer", "stock"),), True, ("buyer",), True])
        self.assertEqual(
            [list(bridges(FAR, "a", "b")), is_bridge(FAR, "b", "a", ("u", "s")), is_bridge(FAR, "a", "b", ("u", "s")),
             bridge(FAR.with_key("s", ("x",)), "a", "b")],
            [[("s", "u")], True, False, ("u",)])
        self.assertEqual(
            [strains(GOODS), strains(GOODS.with_key("place", None)),
             strains(FAR.with_key("s", ("x",)).with_key("u", ("z",)))],
            [(), (("order", "stock"),), ()])


class Bridges(Case):

    def test_of_each_number_of_tables(self):
        self.assertEqual(list(bridges(FIVE, ("a",), "z")), [("e", "d", "c", "b", "a")])
        self.assertEqual(list(bridges(FIVE, ("b",), "z")), [("d", "c", "b", "a")])
        self.assertEqual(list(bridges(FIVE, ("c",), "z")), [("c", "b", "a")])
        self.assertEqual(list(bridges(FIVE, ("d",), "z")), [("b", "a")])
        self.assertEqual(list(bridges(FIVE, ("e",), "z")), [("a",)])
        self.assertEqual(list(bridges(FIVE, ("f",), "z")), [])
        self.assertEqual(list(bridges(FIVE, (), "z")), [])
        self.assertEqual(list(bridges(FIVE.without("c"), ("a",), "z")), [])
        self.same(bridge(FIVE, ("a",), "z"), ("e", "d", "c", "b", "a"))
        self.assertIsNone(bridge(FIVE, ("f",), "z"))

    def test_of_four_tables_between_two(self):
        scene = Scene(changing={"m": ("a",), "n": ("e",)},
                      fixed={"w": ("a", "b"), "x": ("b", "c"), "v": ("c", "d"), "u": ("d", "e")})
        self.assertEqual(list(bridges(scene, "m", "n")), [("w", "x", "v", "u")])
        self.assertEqual(list(bridges(scene, "n", "m")), [("u", "v", "x", "w")])

    def test_order(self):
        self.assertEqual(list(bridges(RING, "one", "two")),
                         [("r",), ("s",), ("q", "p"), ("q", "r"), ("r", "p"), ("q", "p", "r"), ("q", "r", "p"),
                          ("r", "q", "p")])
        self.assertEqual(list(bridges(RING, "two", "one")),
                         [("r",), ("s",), ("p", "q"), ("p", "r"), ("r", "q"), ("p", "q", "r"), ("p", "r", "q"),
                          ("r", "p", "q")])
        self.same(bridge(RING, "one", "two"), ("r",))
        told = bridges(RING, "one", "two")
        self.same((next(told), next(told), next(told)), (("r",), ("s",), ("q", "p")))

    def test_the_first_one_reversed_need_not_be_the_first_one_back(self):
        scene = Scene(changing={"m": ("x",), "n": ("y",)},
                      fixed={"a": ("x", "z"), "d": ("y", "z"), "b": ("x", "w"), "c": ("w", "y")})
        self.assertEqual(list(bridges(scene, "m", "n")), [("a", "d"), ("b", "c")])
        self.assertEqual(list(bridges(scene, "n", "m")), [("c", "b"), ("d", "a")])

    def test_reversed(self):
        for scene in (SHOP, GOODS, FAR, RING, *some_scenes(40, seed=30)):
            for one, other in product(scene.changing, repeat=2):
                if one != other:
                    there, back = list(bridges(scene, one, other)), list(bridges(scene, other, one))
                    self.assertEqual(sorted(path[::-1] for path in there), sorted(back))
                    if there:
                        self.assertEqual(len(there[0]), len(back[0]))

    def test_beside_the_slow_way(self):
        for scene in (SHOP, GOODS, CHAIN, FAR, RING, *some_scenes(60, tables=5, seed=31)):
            for role, table in pairs_of(scene):
                slow = slow_bridges(scene, role, table)
                self.assertEqual(list(bridges(scene, role, table)), slow)
                self.assertEqual(bridge(scene, role, table), slow[0] if slow else None)

    def test_no_bridge_has_the_two_or_a_table_with_the_key_of_no_columns(self):
        for scene in (RING, *some_scenes(60, seed=32)):
            bare = [table for table in scene.tables if scene.key_of(table) == ()]
            for role, table in pairs_of(scene):
                for path in bridges(scene, role, table):
                    self.assertFalse({*path} & {role, table, *bare})
                    self.assertLessEqual(len(path), 4 if isinstance(role, str) else 5)

    def test_tables_with_the_key_of_no_columns(self):
        scene = RING.without("r", "s")
        self.same(strains(scene), (("one", "two"),))
        self.same(strains(scene.with_key("q", ())), ())
        self.same(strains(scene.with_key("p", ())), ())
        little = Scene(changing={"one": ("a",), "two": ("b",)}, fixed={"s": ("a", "b")})
        self.same(strains(little), (("one", "two"),))
        self.same(strains(little.with_key("s", ())), ())

    def test_keyed_tables_between(self):
        both = FAR.with_key("s", ("x",)).with_key("u", ("z",))
        self.assertIsNone(bridge(both, "a", "b"))
        self.assertIsNone(bridge(both, "b", "a"))
        self.assertEqual(list(bridges(FAR.with_key("u", ("z",)), "a", "b")), [("s", "u")])
        self.assertEqual(list(bridges(FAR.with_key("s", ("z",)), "a", "b")), [("s", "u")])
        self.assertEqual(list(bridges(FAR.with_key("s", ("z",)).with_key("u", ("z",)), "a", "b")), [("s", "u")])
        met = FAR.with_key("s", ("x",)).with_key("u", ("y",))
        self.assertEqual(list(bridges(met, "a", "b")), [])

    def test_tables_between_that_change(self):
        for scene in (FAR, FAR.freed("s"), FAR.freed("s", "u")):
            self.assertEqual(list(bridges(scene, "a", "b")), [("s", "u")])
        self.same(strains(FAR.freed("s", "u")), (("a", "b"), ("a", "u"), ("b", "s")))

    def test_is_bridge_for_every_tuple_of_different_tables(self):
        for scene in (SHOP, GOODS, FAR, RING, *some_scenes(25, tables=5, seed=33)):
            for role, table in pairs_of(scene)[:12]:
                slow = slow_bridges(scene, role, table)
                for path in orders(scene.tables):
                    self.assertIs(is_bridge(scene, role, table, path), path in slow)
        for path in orders(FIVE.tables):
            self.assertIs(is_bridge(FIVE, ("a",), "z", path), path == ("e", "d", "c", "b", "a"))

    def test_is_bridge_for_other_values(self):
        for value in EVERY:
            self.assertIs(is_bridge(SHOP, "buyer", "stock", value), type(value) is tuple and value == ("order",))
            self.assertIs(is_bridge(RING, "one", "two", value), False)
        for value in (["r"], "r", ("r", "r"), ("q", "p", "q", "p"), ("r", "q", "r"), (), ("q", "r", "q", "p"), ("zz",),
                      ("r", "zz"), ("zz", "r"), ("one",), ("two",), ("one", "r"), ("r", "two"), ("q",), ("p",),
                      ("q", "p", None), (["q"], "p"), {"r": 1}, ("p", "q"), ("s", "s"), ("q", "r", "p", "q")):
            self.assertIs(is_bridge(RING, "one", "two", value), False)
        for value in (("r",), ("s",), ("q", "p"), ("q", "r"), ("r", "p"), ("q", "r", "p")):
            self.assertIs(is_bridge(RING, "one", "two", value), True)

    def test_errors(self):
        for scene, role, table in ((SHOP, "buyer", "stock"), (GOODS, ("who",), "stock"), (FAR, "a", "b")):
            arguments = [Argument(scene, NO_SCENES, InvalidScene), Argument(role, no_role(scene), InvalidRole),
                         Argument(table, no_table(scene), UnknownName)]
            check_errors(self, bridge, *arguments)
            check_errors(self, bridges, *arguments)
            check_errors(self, is_bridge, *arguments, Argument(("order",), [], InvalidScene))
        for more in ((), (("order",),), (None,)):
            for function in (bridge, is_bridge) if more else (bridge, bridges):
                if function is is_bridge or not more:
                    call = self.lazily if function is bridges else self.raises
                    call(InvalidOperation, function, SHOP, "buyer", "buyer", *more)
                    call(InvalidOperation, function, GOODS, "order", "place", *more)
                    call(InvalidOperation, function, GOODS, ("part",), "place", *more)
                    call(InvalidRole, function, GOODS, "place", "place", *more)

    def test_a_door_with_the_name_of_the_table(self):
        scene = Scene(changing={"who": ("part",), "order": ("part", "who")})
        self.same(strained_tables(scene, ("who",)), ("who",))
        self.assertEqual(list(bridges(scene, ("who",), "who")), [("order",)])
        self.raises(InvalidOperation, bridge, scene, "who", "who")


class Strains(Case):

    def test_beside_the_slow_way(self):
        for scene in (SHOP, GOODS, CHAIN, FAR, RING, FIVE, *some_scenes(60, tables=5, seed=34)):
            for role in roles_of(scene):
                straining = slow_strained(scene, role)
                self.same(strained_tables(scene, role), straining)
                self.assertIs(is_served(scene, role), straining == ())
            self.same(strains(scene), tuple((one, other) for one in scene.changing for other in scene.changing
                                            if one < other and other in slow_strained(scene, one)))

    def test_each_of_two_tables_strains_the_other(self):
        for scene in some_scenes(60, seed=35):
            for one, other in product(scene.changing, repeat=2):
                self.assertEqual(other in strained_tables(scene, one), one in strained_tables(scene, other))

    def test_pieces_tell_it_too(self):
        for scene in (SHOP, GOODS, FAR, RING, *some_scenes(60, seed=36)):
            for role, table in pairs_of(scene):
                names, others = slow_names(scene, role), slow_names(scene, table)
                piece = [part for part in pieces(scene, role) if table in part][0]
                columns = {column for part in piece for column in scene.columns_of(part)}
                self.assertEqual(table in strained_tables(scene, role), bool(columns & (names - others)))

    def test_doors(self):
        self.same(strained_tables(SHOP, ()), ())
        self.same(strained_tables(SHOP, ("part", "who")), ())
        self.same(strained_tables(SHOP, ("who",)), ("stock",))
        self.same(strained_tables(GOODS, ("who",)), ("stock",))
        self.same(strained_tables(GOODS, ("shelf",)), ())
        self.assertIs(is_served(SHOP, ()), True)
        for scene in some_scenes(40, seed=37):
            self.assertIs(is_served(scene, ()), True)
            self.assertIs(is_served(scene, scene.columns), True)

    def test_scenes_with_few_tables_that_change(self):
        still = SHOP.held(*SHOP.tables)
        self.same((strains(still), strained_tables(still, ("who",)), is_served(still, ("part",))), ((), (), True))
        self.same(strains(SHOP.held("stock")), ())
        self.same(strained_tables(SHOP.held("stock"), "buyer"), ())

    def test_errors(self):
        check_errors(self, strains, Argument(SHOP, NO_SCENES, InvalidScene))
        for function in (strained_tables, is_served):
            for scene, role in ((SHOP, "buyer"), (GOODS, ("shelf",))):
                check_errors(self, function, Argument(scene, NO_SCENES, InvalidScene),
                             Argument(role, no_role(scene), InvalidRole))
            self.raises(InvalidRole, function, GOODS, "place")

"""Stage 3: bases."""

from itertools import permutations

from fewtouched.base import bases
from fewtouched.base.bases import Base
from fewtouched.base.scenes import Scene
from fewtouched.errors import (InvalidBase, InvalidNumber, InvalidOperation, InvalidScene, NotThere, TooMany,
                               UnknownName)
from tests.arguments import Argument, check_errors
from tests.values import (CHAIN, Case, DAY, EVERY, GOODS, LONG, NO_NUMBERS, NO_SCENES, SHELVES, SHOP, has_hash,
                          no_integers, no_table)

# Tables that cannot be passed by keyword, tables without columns, and keys of all kinds.
ODD = Scene(changing={"self": ("a", "b"), "scene": (), "plain": ("a",)},
            fixed={"bare": (), "every": ("a", "b"), "still": ("b",)},
            keyed={"bare": (), "every": ("a", "b")})
KEYS = Scene(changing={"move": ("a",)}, fixed={"none": ("a", "b"), "one": ("a", "b"), "two": ("a", "b", "c")},
             keyed={"none": (), "one": ("b",), "two": ("a", "c")})
WIDE = Scene(changing={"t": ("a",), "u": ("a", "b")}, fixed={"k": ("a", "b"), "s": ("b",)}, keyed={"k": ("a",)})


def rows_of(base):
    """What the base has in all tables, with the order of the rows."""
    return [(table, list(base.rows(table).items())) for table in base.scene.tables]


def full(table="t", many=400, scene=WIDE):
    """A base with so many different rows in one table."""
    return Base.of(scene, {table: tuple((at,) * len(scene.columns_of(table)) for at in range(many))})


class Document(Case):

    def test_constant(self):
        self.same(bases.MAX_ROWS, 400)

    def test_examples(self):
        self.assertEqual(
            [DAY.rows("order"), DAY.size, DAY.times("buyer", (3,)), str(DAY.with_rows("stock", ()))],
            [{(10, 1): 2, (20, 1): 1, (20, 2): 1}, 6, 0, "base of 5 rows in 2 tables"])
        self.assertEqual(
            [DAY.take("order", (10, 1), many=2).size, (DAY + DAY).times("order", (10, 1)),
             DAY.on(SHOP.held("stock")) == DAY],
            [5, 4, False])


class Made(Case):

    def test_rows_in_any_order_and_repeated(self):
        rows = ((20, 2), (10, 1), (20, 1), (10, 1))
        for order in permutations(rows):
            for made in (Base(SHOP, order=order), Base.of(SHOP, {"order": order})):
                self.told(made.rows("order"), {(10, 1): 2, (20, 1): 1, (20, 2): 1})
                self.same(made.size, 3)

    def test_order_of_tables_does_not_matter(self):
        rows = {"buyer": ((1,),), "order": ((1, 2),), "stock": ((3,), (3,))}
        for order in permutations(rows.items()):
            self.assertEqual(Base.of(SHOP, dict(order)), Base(SHOP, **rows))
            self.assertEqual(rows_of(Base(SHOP, **dict(order))), rows_of(Base(SHOP, **rows)))

    def test_tables_that_are_not_told_have_no_rows(self):
        for made in (Base(SHOP), Base.of(SHOP, {}), Base(SHOP, order=()), Base.of(SHOP, {"buyer": (), "stock": ()})):
            self.same(made.size, 0)
            for table in SHOP.tables:
                self.told(made.rows(table), {})
            self.assertEqual(made, Base(SHOP))
        self.told(DAY.rows("stock"), {(10,): 1})

    def test_tables_called_self_and_scene(self):
        made = Base.of(ODD, {"self": ((1, 2), (1, 2)), "scene": ((),) * 3, "plain": ((5,),)})
        self.told(made.rows("self"), {(1, 2): 2})
        self.told(made.rows("scene"), {(): 3})
        self.told(made.rows("plain"), {(5,): 1})
        self.assertEqual(Base.of(ODD, {"plain": ((5,),)}), Base(ODD, plain=((5,),)))

    def test_tables_without_columns(self):
        made = Base.of(ODD, {"scene": ((), ()), "bare": ((), (), ())})
        self.told(made.rows("scene"), {(): 2})
        self.told(made.rows("bare"), {(): 1})
        self.same((made.size, made.times("scene", ()), made.times("bare", ())), (2, 2, 1))

    def test_keyed_tables_have_each_row_once(self):
        made = Base(KEYS, none=((1, 2),) * 3, one=((1, 2), (1, 3), (1, 2)), two=((1, 5, 1), (1, 6, 2), (2, 5, 1)) * 2,
                    move=((1,),) * 2)
        self.told(made.rows("none"), {(1, 2): 1})
        self.told(made.rows("one"), {(1, 2): 1, (1, 3): 1})
        self.told(made.rows("two"), {(1, 5, 1): 1, (1, 6, 2): 1, (2, 5, 1): 1})
        self.told(made.rows("move"), {(1,): 2})
        self.told(Base(ODD, every=((1, 2), (2, 2), (2, 1), (1, 2))).rows("every"), {(1, 2): 1, (2, 1): 1, (2, 2): 1})
        self.told(Base(ODD, still=((2,), (2,), (1,))).rows("still"), {(1,): 1, (2,): 2})

    def test_clashing_rows_of_keyed_tables(self):
        for rows in ({"none": ((1, 2), (1, 3))}, {"none": ((1, 2), (2, 2))}, {"one": ((1, 2), (2, 2))},
                     {"two": ((1, 5, 1), (1, 6, 1))}, {"two": ((0, 0, 0), (1, 5, 1), (1, 5, 1), (1, 6, 1))}):
            self.raises(InvalidBase, Base.of, KEYS, rows)
            with self.assertRaises(InvalidBase):
                Base(KEYS, **rows)

    def test_integers(self):
        rows = ((-LONG, LONG), (LONG, -LONG), (0, -1), (-1, 0))
        made = Base(SHOP, order=rows)
        self.told(made.rows("order"), {row: 1 for row in sorted(rows)})
        for row in rows:
            self.same(made.times("order", row), 1)

    def test_four_hundred_rows(self):
        self.same(full().size, 400)
        self.same(full("u").size, 400)
        self.same(Base(WIDE, t=tuple((at,) for at in range(-200, 0)), k=tuple((at, 0) for at in range(200))).size, 400)
        self.same(Base(WIDE, t=tuple((at % 400,) for at in range(1200))).size, 400)
        self.same(Base(WIDE, t=((1,),) * 1200).times("t", (1,)), 1200)
        for rows in ({"t": tuple((at,) for at in range(401))},
                     {"t": tuple((at,) for at in range(400)), "s": ((0,),)},
                     {name: tuple((at,) * len(WIDE.columns_of(name)) for at in range(101)) for name in WIDE.tables}):
            self.raises_with(TooMany, "limit", 400, Base.of, WIDE, rows)
            with self.assertRaises(TooMany):
                Base(WIDE, **rows)

    def test_wrong_rows_come_ahead_of_too_many(self):
        rows = tuple((at,) for at in range(500))
        self.raises(InvalidBase, Base.of, WIDE, {"t": rows, "zz": ()})
        self.raises(InvalidBase, Base.of, WIDE, {"t": rows, "u": ((1,),)})
        self.raises(InvalidBase, Base.of, WIDE, {"t": rows, "k": ((1, 2), (1, 3))})
        self.raises(InvalidBase, Base.of, WIDE, {"t": (*rows, (True,))})

    def test_wrong_scenes(self):
        for value in NO_SCENES:
            for rows in ({}, {"order": 5}, None):
                self.raises(InvalidScene, Base.of, value, rows)
            self.raises(InvalidScene, Base, value)
            self.raises(InvalidScene, Base, value, order=5)

    def test_wrong_dicts(self):
        for value in EVERY:
            if value != {}:
                with self.subTest(value):
                    if value != {"order": ((10, 1),)}:
                        self.raises(InvalidBase, Base.of, SHOP, value)
                    self.raises(InvalidBase, Base.of, CHAIN, value)
        for table in no_table(SHOP):
            if has_hash(table):
                self.raises(InvalidBase, Base.of, SHOP, {table: ()})
                self.raises(InvalidBase, Base.of, SHOP, {"order": (), table: ()})
        with self.assertRaises(InvalidBase):
            Base(SHOP, zz=())
        with self.assertRaises(InvalidBase):
            Base(SHOP, who=((1,),))

    def test_wrong_rows(self):
        for value in EVERY:
            with self.subTest(value):
                if value != ():
                    self.raises(InvalidBase, Base.of, SHOP, {"order": value})
                    self.raises(InvalidBase, Base, SHOP, order=value)
        for row in no_integers(2):
            with self.subTest(row):
                self.raises(InvalidBase, Base.of, SHOP, {"order": (row,)})
                self.raises(InvalidBase, Base, SHOP, order=((1, 2), row))
                self.raises(InvalidBase, Base, GOODS, place=(row,))
        for row in no_integers(0):
            self.raises(InvalidBase, Base.of, ODD, {"scene": (row,)})
        self.raises(InvalidBase, Base, SHOP, order=[(1, 2)])
        self.raises(InvalidBase, Base, SHOP, order={(1, 2): 1})


class Told(Case):

    def test_properties(self):
        self.assertIs(type(DAY.scene), Scene)
        self.assertEqual(DAY.scene, SHOP)
        self.same((DAY.size, Base(SHOP).size, SHELVES.size), (6, 0, 4))
        with self.assertRaises(AttributeError):
            DAY.size = 5
        with self.assertRaises(AttributeError):
            DAY.scene = GOODS

    def test_rows_ascending(self):
        made = Base(WIDE, t=((3,), (-5,), (LONG,), (0,), (3,)), u=((1, 2), (1, -2), (0, 9)))
        self.told(made.rows("t"), {(-5,): 1, (0,): 1, (3,): 2, (LONG,): 1})
        self.told(made.rows("u"), {(0, 9): 1, (1, -2): 1, (1, 2): 1})
        again = made.put("t", (1,)).put("t", (-9,)).put("u", (0, 3))
        self.told(again.rows("t"), {(-9,): 1, (-5,): 1, (0,): 1, (1,): 1, (3,): 2, (LONG,): 1})
        self.told(again.rows("u"), {(0, 3): 1, (0, 9): 1, (1, -2): 1, (1, 2): 1})
        self.told((again + made).rows("t"), {(-9,): 1, (-5,): 2, (0,): 2, (1,): 1, (3,): 4, (LONG,): 2})
        self.told(again.with_rows("t", ((2,), (1,))).rows("t"), {(1,): 1, (2,): 1})

    def test_times(self):
        self.same(DAY.times("order", (10, 1)), 2)
        self.same(DAY.times("order", (1, 10)), 0)
        self.same(DAY.times("stock", (10,)), 1)
        self.same(SHELVES.times("place", (10, 7)), 1)
        self.same(SHELVES.times("place", (10, 8)), 0)

    def test_str(self):
        self.same(str(DAY), "base of 6 rows in 3 tables")
        self.same(str(Base(SHOP)), "base of 0 rows in 0 tables")
        self.same(str(Base(SHOP, order=((1, 2),))), "base of 1 rows in 1 tables")
        self.same(str(Base(SHOP, order=((1, 2),) * 9, buyer=((1,), (2,)))), "base of 3 rows in 2 tables")

    def test_len_and_truth(self):
        for base, many in ((DAY, 6), (Base(SHOP), 0), (Base(SHOP, order=((1, 2),) * 9), 1), (full(), 400)):
            self.same(len(base), many)
            self.assertIs(bool(base), many > 0)

    def test_cannot_be_iterated_over(self):
        self.assertRaises(TypeError, iter, DAY)
        self.assertRaises(TypeError, list, Base(SHOP))
        with self.assertRaises(TypeError):
            "order" in DAY

    def test_equality(self):
        same = Base(Scene.of(SHOP.lines), **{table: tuple(row for row, many in DAY.rows(table).items()
                                                          for _ in range(many)) for table in SHOP.tables})
        others = [Base(SHOP), DAY.put("order", (10, 1)), DAY.take("order", (10, 1)), DAY.put("buyer", (3,)),
                  DAY.with_rows("stock", ((11,),)), DAY.on(SHOP.held("stock")), SHELVES]
        self.assertIs(DAY == same, True)
        self.assertIs(DAY != same, False)
        for other in [*others, *[value for value in EVERY if value is not DAY]]:
            with self.subTest(other):
                self.assertIs(DAY == other, False)
                self.assertIs(DAY != other, True)
                self.assertIs(other == DAY, False)
        self.assertIs(Base(SHOP) == Base(SHOP.held("order")), False)
        self.assertIs(Base(GOODS) == Base(GOODS.with_key("place", None)), False)

    def test_errors(self):
        check_errors(self, DAY.rows, Argument("order", no_table(SHOP), UnknownName))
        check_errors(self, DAY.times, Argument("order", no_table(SHOP), UnknownName),
                     Argument((10, 1), no_integers(2), InvalidBase))
        check_errors(self, SHELVES.times, Argument("stock", no_table(GOODS), UnknownName),
                     Argument((7,), no_integers(1), InvalidBase))

    def test_nothing_gives_access_to_the_state(self):
        passed = {"order": ((1, 2),), "buyer": ()}
        made = Base.of(SHOP, passed)
        passed["order"] = ((3, 4),)
        passed["stock"] = ((5,),)
        told = made.rows("order")
        told[(7, 8)] = 5
        told[(1, 2)] = 0
        made.rows("buyer")[(9,)] = 1
        self.told(made.rows("order"), {(1, 2): 1})
        self.told(made.rows("buyer"), {})
        self.same((made.size, made.times("order", (1, 2)), made.times("stock", (5,))), (1, 1, 0))
        self.assertEqual(made, Base(SHOP, order=((1, 2),)))


class Changed(Case):

    def setUp(self):
        self.before = rows_of(DAY)

    def tearDown(self):
        self.assertEqual(rows_of(DAY), self.before)

    def test_put(self):
        self.told(DAY.put("order", (10, 1)).rows("order"), {(10, 1): 3, (20, 1): 1, (20, 2): 1})
        self.told(DAY.put("order", (15, 1)).rows("order"), {(10, 1): 2, (15, 1): 1, (20, 1): 1, (20, 2): 1})
        self.told(DAY.put("stock", (10,), many=5).rows("stock"), {(10,): 6})
        self.told(DAY.put("stock", (5,), many=LONG).rows("stock"), {(5,): LONG, (10,): 1})
        self.same(DAY.put("stock", (5,), many=LONG).put("stock", (5,), many=LONG).times("stock", (5,)), 2 * LONG)
        self.assertEqual(DAY.put("order", (10, 1), many=0), DAY)
        self.assertEqual(DAY.put("order", (99, 1), many=0), DAY)
        for table in ("buyer", "stock"):
            self.assertEqual(DAY.put("order", (15, 1)).rows(table), DAY.rows(table))

    def test_take(self):
        self.told(DAY.take("order", (10, 1)).rows("order"), {(10, 1): 1, (20, 1): 1, (20, 2): 1})
        self.told(DAY.take("order", (10, 1), many=2).rows("order"), {(20, 1): 1, (20, 2): 1})
        self.told(DAY.take("stock", (10,)).rows("stock"), {})
        self.assertEqual(DAY.take("order", (10, 1), many=0), DAY)
        self.assertEqual(DAY.take("order", (99, 1), many=0), DAY)
        many = DAY.put("buyer", (3,), many=LONG)
        self.same(many.take("buyer", (3,), many=LONG - 1).times("buyer", (3,)), 1)
        self.assertEqual(many.take("buyer", (3,), many=LONG), DAY)

    def test_take_more_than_there_are(self):
        for table, row, many in (("order", (10, 1), 3), ("order", (20, 1), 2), ("order", (99, 1), 1),
                                 ("stock", (10,), LONG), ("buyer", (3,), 1)):
            self.raises_with(NotThere, "row", row, DAY.take, table, row, many=many)
        self.raises_with(NotThere, "row", (20, 5), DAY.take, "order", (20, 5))

    def test_put_and_take_back(self):
        for table, row in (("order", (10, 1)), ("order", (0, 0)), ("buyer", (2,)), ("stock", (-LONG,))):
            for many in (0, 1, 2, 7):
                self.assertEqual(DAY.put(table, row, many=many).take(table, row, many=many), DAY)

    def test_four_hundred_rows(self):
        base = full(many=399)
        self.same(base.put("t", (399,)).size, 400)
        self.same(base.put("u", (0, 0), many=3).size, 400)
        self.same(full().put("t", (5,), many=2).size, 400)
        self.same(full().put("t", (400,), many=0).size, 400)
        self.same(full().take("t", (5,)).put("u", (1, 1)).size, 400)
        self.raises_with(TooMany, "limit", 400, full().put, "t", (400,))
        self.raises_with(TooMany, "limit", 400, full().put, "u", (5, 5), many=LONG)

    def test_fixed_tables(self):
        for call in (SHELVES.put, SHELVES.take):
            self.raises(InvalidOperation, call, "place", (10, 7))
            self.raises(InvalidOperation, call, "place", (10, 9))
            self.raises(InvalidOperation, call, "place", (10, 7), many=0)
            self.raises(InvalidBase, call, "place", (10,))
            self.raises_with(InvalidNumber, "value", -1, call, "place", (10, 7), many=-1)
        still = DAY.on(SHOP.held("stock"))
        self.raises(InvalidOperation, still.take, "stock", (11,))
        self.raises(InvalidOperation, still.put, "stock", (10,))
        self.raises(InvalidOperation, full().on(WIDE.held("t")).put, "t", (400,))

    def test_wrong_arguments(self):
        for call in (DAY.put, DAY.take):
            check_errors(self, call, Argument("order", no_table(SHOP), UnknownName),
                         Argument((10, 1), no_integers(2), InvalidBase),
                         Argument(1, NO_NUMBERS, InvalidNumber, "many"))

    def test_wrong_number_ahead_of_the_rest(self):
        self.raises_with(InvalidNumber, "value", True, DAY.take, "order", (99, 1), many=True)
        self.raises_with(InvalidNumber, "value", -1, full().put, "t", (400,), many=-1)


class WithRows(Case):

    def test_of_changing_and_of_fixed_tables(self):
        self.told(DAY.with_rows("order", ((2, 2), (1, 1), (2, 2))).rows("order"), {(1, 1): 1, (2, 2): 2})
        self.told(SHELVES.with_rows("place", ((2, 2), (1, 2), (2, 2))).rows("place"), {(1, 2): 1, (2, 2): 1})
        self.told(SHELVES.with_rows("place", ()).rows("place"), {})
        self.told(Base(WIDE).with_rows("s", ((1,), (1,))).rows("s"), {(1,): 2})
        self.told(SHELVES.with_rows("place", ((2, 2),)).rows("order"), {(10, 1): 1})
        self.same(SHELVES.size, 4)
        self.told(SHELVES.rows("place"), {(10, 7): 1, (20, 7): 1})

    def test_clashing_rows(self):
        self.raises(InvalidBase, SHELVES.with_rows, "place", ((1, 2), (1, 3)))
        self.raises(InvalidBase, Base(KEYS).with_rows, "none", ((1, 2), (3, 4)))
        self.assertEqual(Base(KEYS).with_rows("none", ((1, 2), (1, 2))), Base(KEYS, none=((1, 2),)))

    def test_four_hundred_rows(self):
        rows = tuple((at,) for at in range(400))
        self.same(full().with_rows("t", rows[::-1]).size, 400)
        self.same(full().with_rows("t", ()).with_rows("s", rows).size, 400)
        self.raises_with(TooMany, "limit", 400, full().with_rows, "s", ((1,),))
        self.raises_with(TooMany, "limit", 400, Base(WIDE).with_rows, "t", (*rows, (400,)))
        self.raises(InvalidBase, Base(WIDE).with_rows, "t", (*rows, (400,), 5))
        self.raises(InvalidBase, full().with_rows, "k", ((1, 2), (1, 3)))

    def test_wrong_arguments(self):
        no_rows = [value for value in EVERY if value != ()]
        check_errors(self, DAY.with_rows, Argument("order", no_table(SHOP), UnknownName),
                     Argument(((1, 2),), no_rows, InvalidBase))
        for row in no_integers(2):
            self.raises(InvalidBase, DAY.with_rows, "order", (row,))
            self.raises(InvalidBase, SHELVES.with_rows, "place", ((1, 2), row))


class On(Case):

    def test_same_rows(self):
        for scene in (SHOP, SHOP.held("stock"), SHOP.held(*SHOP.tables), SHOP.held("buyer").with_key("buyer", ("who",)),
                      SHOP.held("stock").with_key("stock", ())):
            moved = DAY.on(scene)
            self.assertEqual(moved.scene, scene)
            self.assertEqual(rows_of(moved), rows_of(DAY))
            self.assertEqual(moved.on(SHOP), DAY)
        self.assertEqual(SHELVES.on(GOODS.with_key("place", None)).on(GOODS), SHELVES)
        self.assertEqual(SHELVES.on(GOODS.freed("place")).put("place", (10, 7)).times("place", (10, 7)), 2)
        self.assertEqual(DAY.scene, SHOP)

    def test_other_tables_or_columns(self):
        for scene in (GOODS, SHOP.without("stock"), SHOP.with_table("t", ()), SHOP.renamed("tables", {"stock": "t"}),
                      SHOP.renamed("columns", {"who": "x"}), SHOP.renamed("columns", {"who": "part", "part": "who"})):
            self.raises(InvalidOperation, DAY.on, scene)
            self.raises(InvalidOperation, Base(SHOP).on, scene)

    def test_keyed_tables(self):
        keyed = SHOP.held("order").with_key("order", ("part", "who"))
        self.raises(InvalidBase, DAY.on, keyed)
        self.assertEqual(rows_of(DAY.take("order", (10, 1)).on(keyed)), rows_of(DAY.take("order", (10, 1))))
        self.raises(InvalidBase, DAY.take("order", (10, 1)).on, SHOP.held("order").with_key("order", ("part",)))
        self.raises(InvalidBase, DAY.on, SHOP.held("buyer").with_key("buyer", ()))
        bare = Scene(changing={"t": ()})
        self.raises(InvalidBase, Base(bare, t=((), ())).on, bare.held("t").with_key("t", ()))
        self.same(Base(bare, t=((),)).on(bare.held("t").with_key("t", ())).size, 1)
        self.raises(InvalidOperation, DAY.on, keyed.without("stock"))

    def test_wrong_scenes(self):
        check_errors(self, DAY.on, Argument(SHOP, NO_SCENES, InvalidScene))


class Added(Case):

    def test_times(self):
        more = Base(SHOP, order=((10, 1), (5, 5)), stock=((10,), (11,), (11,)))
        both = DAY + more
        self.told(both.rows("order"), {(5, 5): 1, (10, 1): 3, (20, 1): 1, (20, 2): 1})
        self.told(both.rows("stock"), {(10,): 2, (11,): 2})
        self.told(both.rows("buyer"), {(1,): 1, (2,): 1})
        self.assertEqual(both, more + DAY)
        self.assertEqual(DAY + Base(SHOP), DAY)
        self.assertEqual(Base(SHOP) + DAY, DAY)
        self.same((DAY.size, more.size), (6, 4))
        self.assertEqual(DAY + Base(Scene.of(SHOP.lines)), DAY)

    def test_keyed_tables(self):
        other = Base(GOODS, place=((20, 7), (30, 7)), order=((10, 1),))
        both = SHELVES + other
        self.told(both.rows("place"), {(10, 7): 1, (20, 7): 1, (30, 7): 1})
        self.told(both.rows("order"), {(10, 1): 2})
        for place in ((20, 8), (10, 8)):
            with self.assertRaises(InvalidBase):
                SHELVES + Base(GOODS, place=(place,))
            with self.assertRaises(InvalidBase):
                Base(GOODS, place=(place,)) + SHELVES
        self.told((Base(KEYS, none=((1, 2),)) + Base(KEYS, none=((1, 2),))).rows("none"), {(1, 2): 1})
        with self.assertRaises(InvalidBase):
            Base(KEYS, none=((1, 2),)) + Base(KEYS, none=((1, 3),))
        self.told((Base(ODD, every=((1, 2),)) + Base(ODD, every=((1, 3),))).rows("every"), {(1, 2): 1, (1, 3): 1})
        self.told((Base(ODD, bare=((),)) + Base(ODD, bare=((),), still=((1,),))).rows("bare"), {(): 1})
        self.told((Base(ODD, still=((1,),)) + Base(ODD, still=((1,),))).rows("still"), {(1,): 2})

    def test_four_hundred_rows(self):
        half = Base(WIDE, s=tuple((at,) for at in range(200)))
        self.same((full(many=200) + half).size, 400)
        self.same((full() + full()).size, 400)
        with self.assertRaises(TooMany) as caught:
            full(many=201) + half
        self.same(caught.exception.limit, 400)
        one, other = Base(WIDE, k=((1, 2),), t=tuple((at,) for at in range(300))), Base(WIDE, k=((1, 3),)) + half
        with self.assertRaises(InvalidBase):
            one + other

    def test_wrong_values(self):
        for value in EVERY:
            if value is not DAY:
                with self.subTest(value), self.assertRaises(InvalidOperation):
                    DAY + value
        for scene in (SHOP.held("stock"), GOODS, SHOP.with_table("t", ())):
            with self.assertRaises(InvalidOperation):
                DAY + Base(scene)

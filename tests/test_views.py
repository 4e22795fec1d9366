"""Stage 6: views, their entries, and how a change alters them."""

from random import Random

from fewtouched.base.bases import Base
from fewtouched.base.scenes import Scene
from fewtouched.errors import InvalidBase, InvalidOperation, InvalidScene, InvalidView, TooMany, UnknownName
from fewtouched.views import views as module
from fewtouched.views.views import all_views, altered, entries, entry, is_view
from tests.arguments import Argument, check_errors
from tests.oracle import slow_entries, some_base, some_scenes, views_of
from tests.test_matches import apart, around, ring
from tests.values import (CHAIN, Case, DAY, EVERY, GOODS, LONG, NO_BASES, NO_SCENES, SHELVES, SHOP, no_integers,
                          no_table, no_view)

LARGE = Scene(changing={"a": ("p", "q", "r", "s"), "b": ("s", "t"), "c": ("u",), "d": ()}, fixed={"e": ("p",), "f": ()},
              keyed={"e": (), "f": ()})


class Document(Case):

    def test_constant(self):
        self.same(module.MAX_ENTRIES, 10000)

    def test_examples(self):
        self.assertEqual(
            [is_view(SHOP, (("order", "stock"), ("who",))), is_view(SHOP, (("stock",), ("who",))),
             len(list(all_views(SHOP))), list(all_views(SHOP))[1:3]],
            [True, False, 24, [(("buyer",), ("who",)), (("buyer", "order"), ())]])
        self.assertEqual(
            [entry(DAY, (("order", "stock"), ("who",)), (1,)), entries(DAY, (("order",), ("who",))),
             entries(DAY, (("buyer", "stock"), ()))],
            [2, {(1,): 3, (2,): 1}, {(): 2}])
        self.assertEqual(
            [altered(DAY, (("order", "stock"), ("who",)), "stock", (20,)),
             altered(DAY, (("order", "stock"), ("part",)), "stock", (10,)),
             altered(DAY, (("order",), ("who",)), "stock", (10,))],
            [{(1,): 1, (2,): 1}, {(10,): 2}, {}])


class Views(Case):

    def test_all_views(self):
        for scene in (SHOP, GOODS, CHAIN, LARGE, Scene(changing={"t": ()}), *some_scenes(12, seed=9)):
            self.same(tuple(all_views(scene)), tuple(views_of(scene)))
        self.same(tuple(all_views(Scene(fixed={"t": ()}))), ((("t",), ()),))

    def test_all_views_one_by_one(self):
        told = all_views(LARGE)
        self.same((next(told), next(told)), ((("a",), ()), (("a",), ("p",))))

    def test_is_view(self):
        for scene in (SHOP, GOODS, CHAIN):
            good = views_of(scene)
            for value in [*good, *EVERY, *no_view(scene)]:
                self.assertIs(is_view(scene, value), type(value) is tuple and value in good)

    def test_nearly_views(self):
        for value in ((("stock", "order"), ("who",)), (("order", "order"), ("who",)), (["order"], ("who",)),
                      (("order",), ["who"]), [("order",), ("who",)], (("order",), ("who", "part")), ((), ()),
                      (("order",), ("who", "who")), (("stock",), ("who",)), ((), ("who",)), (("order",),), "order",
                      (("order",), ("who",), ()), (("order",), "who"), ("order", ("who",)), (("zz",), ()),
                      (("order",), ("zz",)), (("order",), None), (("order",), (1,)), ((1,), ()), ((("order",),), ()),
                      ({"order": 1}, ()), (("order", "zz"), ()), (("who",), ("who",)), (True, False), {}, None):
            self.assertIs(is_view(SHOP, value), False)

    def test_errors(self):
        check_errors(self, is_view, Argument(SHOP, NO_SCENES, InvalidScene), Argument(((), ()), [], InvalidView))
        check_errors(self, all_views, Argument(SHOP, NO_SCENES, InvalidScene))


class Entries(Case):

    def test_each_kind_of_columns(self):
        both = ("order", "stock")
        self.told(entries(DAY, (both, ())), {(): 2})
        self.told(entries(DAY, (both, ("part",))), {(10,): 2})
        self.told(entries(DAY, (both, ("part", "who"))), {(10, 1): 2})
        self.told(entries(DAY, (("order",), ("part",))), {(10,): 2, (20,): 2})
        self.told(entries(DAY, (("order",), ("part", "who"))), {(10, 1): 2, (20, 1): 1, (20, 2): 1})
        self.told(entries(DAY, (("order",), ())), {(): 4})
        self.told(entries(DAY, (("buyer", "stock"), ("part", "who"))), {(10, 1): 1, (10, 2): 1})
        self.told(entries(DAY.with_rows("stock", ()), (both, ("part",))), {})
        self.told(entries(DAY.with_rows("stock", ()), (both, ())), {})

    def test_entry(self):
        both = ("order", "stock")
        self.same(entry(DAY, (both, ("who",)), (1,)), 2)
        self.same(entry(DAY, (both, ("who",)), (2,)), 0)
        self.same(entry(DAY, (both, ()), ()), 2)
        self.same(entry(DAY, (("order",), ("part", "who")), (20, 2)), 1)
        self.same(entry(DAY, (("order",), ("part", "who")), (2, 20)), 0)
        self.same(entry(SHELVES, (("order", "place"), ("shelf", "who")), (7, 1)), 1)
        self.same(entry(SHELVES, (("place",), ("shelf",)), (7,)), 2)
        self.same(entry(DAY.put("order", (20, 2), many=LONG), (("order",), ("part",)), (20,)), LONG + 2)

    def test_beside_the_slow_way(self):
        chance = Random(10)
        for scene in some_scenes(80, seed=10):
            base = some_base(scene, chance)
            views = views_of(scene)
            for tables, columns in chance.sample(views, min(len(views), 40)):
                told = slow_entries(base, tables, columns)
                self.told(entries(base, (tables, columns)), told)
                for integers in [*list(told)[:3], (0,) * len(columns), (9,) * len(columns)]:
                    self.same(entry(base, (tables, columns), integers), told.get(integers, 0))

    def test_ten_thousand(self):
        base = apart(3, 100)
        told = entries(base, (("a", "c"), ("a", "c")))
        self.assertEqual(list(told), [(one, other) for one in range(100) for other in range(100)])
        self.assertEqual(len(entries(base, (("a", "b", "c"), ("a", "c")))), 10000)
        self.assertEqual(entries(base, (("a", "b", "c"), ())), {(): 10 ** 6})
        more = base.put("c", (-1,))
        self.assertEqual(len(entries(more, (("a", "b"), ("a", "b")))), 10000)
        for view in ((("a", "c"), ("a", "c")), (("a", "b", "c"), ("a", "c")), (("a", "b", "c"), ("a", "b", "c"))):
            self.raises_with(TooMany, "limit", 10000, entries, more, view)
            self.same(entry(more, view, (-1,) * len(view[1])), 0)
        self.told(entries(more.with_rows("b", ()), (("a", "b", "c"), ("a", "c"))), {})

    def test_far_more_matches_than_can_be_made(self):
        base = around()
        self.told(entries(base, (("ta", "tb", "tc", "td"), ("z",))), {(0,): 80 ** 4})
        self.same(entry(base, (("ta", "tb", "tc", "td"), ("a", "b")), (3, 4)), 80 ** 2)
        self.raises_with(TooMany, "limit", 10000, entries, base, (base.scene.tables, ("a", "b", "c", "d", "e", "z")))
        self.assertEqual(len(entries(apart(), (apart().scene.tables, ("c", "e")))), 66 ** 2)
        self.assertEqual(sum(entries(ring(), (ring().scene.tables, ("a", "d"))).values()),
                         entry(ring(), (ring().scene.tables, ()), ()))

    def test_a_returned_dict_is_a_new_one(self):
        entries(DAY, (("order",), ()))[()] = 7
        self.told(entries(DAY, (("order",), ())), {(): 4})

    def test_errors(self):
        check_errors(self, entry, Argument(DAY, NO_BASES, InvalidBase),
                     Argument((("order",), ("who",)), no_view(SHOP), InvalidView),
                     Argument((1,), no_integers(1), InvalidOperation))
        check_errors(self, entries, Argument(DAY, NO_BASES, InvalidBase),
                     Argument((("order",), ("who",)), no_view(SHOP), InvalidView))


class Altered(Case):

    def test_a_table_in_the_view(self):
        both = ("order", "stock")
        self.told(altered(DAY, (both, ("who",)), "order", (10, 5)), {(5,): 1})
        self.told(altered(DAY, (both, ("who",)), "order", (30, 5)), {})
        self.told(altered(DAY, (both, ()), "stock", (20,)), {(): 2})
        self.told(altered(DAY, (("order",), ("part", "who")), "order", (7, 8)), {(7, 8): 1})
        self.told(altered(DAY, (("buyer", "stock"), ("who",)), "stock", (99,)), {(1,): 1, (2,): 1})
        self.told(altered(DAY, (("buyer", "stock"), ("part",)), "stock", (99,)), {(99,): 2})

    def test_a_table_of_which_the_row_is_there_already(self):
        both = ("order", "stock")
        self.told(altered(DAY, (both, ("who",)), "order", (10, 1)), {(1,): 1})
        self.told(altered(DAY, (both, ("who",)), "stock", (10,)), {(1,): 2})
        self.told(altered(DAY, (both, ("part", "who")), "stock", (10,)), {(10, 1): 2})

    def test_a_table_that_is_not_in_the_view(self):
        for table, row in (("buyer", (1,)), ("stock", (10,))):
            self.told(altered(DAY, (("order",), ("who",)), table, row), {})
            self.told(altered(DAY, (("order",), ()), table, row), {})

    def test_how_much_entries_rise_and_fall(self):
        chance = Random(11)
        for scene in some_scenes(100, seed=11):
            base = some_base(scene, chance)
            views = views_of(scene)
            for tables, columns in chance.sample(views, min(len(views), 6)):
                for table in scene.changing:
                    for row in [*list(base.rows(table))[:1], tuple(chance.randrange(3) for _ in scene.columns_of(table))]:
                        told = altered(base, (tables, columns), table, row)
                        before = entries(base, (tables, columns))
                        behind = entries(base.put(table, row), (tables, columns))
                        self.told(told, {key: behind[key] - before.get(key, 0) for key in behind
                                         if behind[key] != before.get(key, 0)})
                        if base.times(table, row) > 0:
                            less = entries(base.take(table, row), (tables, columns))
                            self.assertEqual(told, {key: before[key] - less.get(key, 0) for key in before
                                                    if before[key] != less.get(key, 0)})

    def test_ten_thousand(self):
        base = apart(3, 100)
        view = (("a", "b", "c"), ("a", "c"))
        self.assertEqual(set(altered(base, view, "b", (7,)).values()), {1})
        self.assertEqual(len(altered(base, view, "b", (777,))), 10000)
        self.assertEqual(len(altered(base, view, "a", (777,))), 100)
        for more in (base.put("a", (100,)), base.put("c", (-1,)), apart()):
            self.raises_with(TooMany, "limit", 10000, altered, more, (more.scene.tables, more.scene.columns), "b", (7,))
        self.raises_with(TooMany, "limit", 10000, altered, base.put("a", (100,)), view, "b", (7,))
        self.told(altered(base.put("a", (100,)), (("a", "c"), ("a", "c")), "b", (7,)), {})
        self.assertEqual(len(altered(base.put("a", (100,)), view, "a", (7,))), 100)

    def test_a_base_that_is_full(self):
        base = Base(Scene(changing={"t": ("a",), "u": ("a",)}), t=tuple((at,) for at in range(400)))
        self.told(altered(base, (("t", "u"), ("a",)), "u", (5,)), {(5,): 1})
        self.told(altered(base, (("t",), ("a",)), "t", (400,)), {(400,): 1})

    def test_errors(self):
        check_errors(self, altered, Argument(DAY, NO_BASES, InvalidBase),
                     Argument((("order", "stock"), ("who",)), no_view(SHOP), InvalidView),
                     Argument("order", no_table(SHOP), UnknownName), Argument((10, 1), no_integers(2), InvalidBase))
        for view in ((("order", "place"), ()), (("order",), ())):
            self.raises(InvalidOperation, altered, SHELVES, view, "place", (10, 7))
            self.raises(InvalidBase, altered, SHELVES, view, "place", (10,))
        held = apart().on(apart().scene.held("b"))
        self.raises(InvalidOperation, altered, held, (held.scene.tables, held.scene.columns), "b", (7,))

"""Stage 7: quiet views."""

from random import Random

from fewtouched.base.bases import Base
from fewtouched.base.scenes import Scene
from fewtouched.errors import InvalidNumber, InvalidOperation, InvalidScene, InvalidView, TooMany, UnknownName
from fewtouched.views.quiet import is_loud_base, is_quiet, loud_base, loud_by, quiet_views
from fewtouched.views.views import all_views, altered
from tests.arguments import Argument, check_errors
from tests.oracle import slow_loud_by, some_base, some_scenes, subsets, views_of
from tests.test_matches import apart
from tests.values import (CHAIN, Case, DAY, EVERY, FAR, GOODS, NO_NUMBERS, NO_SCENES, SHELVES, SHOP, no_integers,
                          no_table, no_view)

BY_WHO, BY_SHELF = (("order", "stock"), ("who",)), (("order", "place", "stock"), ("shelf",))
WIDE = Base(SHOP, order=((0, 0), (0, 1), (0, 2)))

# Keyed tables inside a loud view: one that the table reaches, one that it does not, one with the key ().
KEYED = Scene(changing={"t": ("a",), "u": ("c", "d")}, fixed={"k": ("a", "b"), "m": ("c", "e"), "n": ("f",)},
              keyed={"k": ("a",), "m": ("c",), "n": ()})


class Document(Case):

    def test_examples(self):
        self.assertEqual(
            [is_quiet(SHOP, (("buyer", "order"), ("who",))), loud_by(SHOP, BY_WHO), is_quiet(GOODS, BY_SHELF),
             loud_by(GOODS, (("order", "stock"), ("shelf",)))],
            [True, ("stock",), True, ("order",)])
        self.assertEqual(
            [is_loud_base(SHOP, BY_WHO, "stock", many, (WIDE, (0,))) for many in (0, 3, 4)]
            + [loud_base(SHOP, BY_WHO, "order", 2)],
            [True, True, False, None])


class Quiet(Case):

    def test_one_table(self):
        for columns in subsets(("part", "who")):
            self.assertIs(is_quiet(SHOP, (("order",), columns)), True)
            self.same(loud_by(SHOP, (("order",), columns)), ())
        self.assertIs(is_quiet(GOODS, (("place",), ("part", "shelf"))), True)

    def test_several_tables(self):
        self.same(loud_by(SHOP, (("buyer", "stock"), ("part", "who"))), ("buyer", "stock"))
        self.same(loud_by(SHOP, (("buyer", "stock"), ("part",))), ("buyer",))
        self.same(loud_by(SHOP, (SHOP.tables, ("part", "who"))), ("buyer", "stock"))
        self.same(loud_by(SHOP, (SHOP.tables, ())), ())
        self.assertIs(is_quiet(SHOP, (("buyer", "stock"), ("part",))), False)

    def test_fixed_tables_make_nothing_loud(self):
        for view in views_of(SHOP.held(*SHOP.tables)):
            self.assertIs(is_quiet(SHOP.held(*SHOP.tables), view), True)
        self.same(loud_by(SHOP.held("stock"), BY_WHO), ())
        self.same(loud_by(SHOP.held("order"), BY_WHO), ("stock",))

    def test_keyed_tables(self):
        self.same(loud_by(KEYED, (("k", "t"), ("b",))), ())
        self.same(loud_by(KEYED, (("t", "u"), ("d",))), ("t",))
        self.same(loud_by(KEYED, (("m", "n", "t", "u"), ("e",))), ("t",))
        self.same(loud_by(KEYED, (("m", "n", "t", "u"), ("f",))), ())
        self.same(loud_by(KEYED.with_key("n", None), (("n", "t", "u"), ("f",))), ("t", "u"))
        self.same(loud_by(KEYED.with_key("m", None), (("m", "u"), ("e",))), ("u",))
        self.same(loud_by(KEYED, (("t", "u"), ("a", "d"))), ("t", "u"))

    def test_beside_the_slow_way(self):
        for scene in (SHOP, GOODS, CHAIN, FAR, KEYED, *some_scenes(25, tables=5, columns=4, seed=20)):
            for view in views_of(scene):
                louds = slow_loud_by(scene, view)
                self.same(loud_by(scene, view), louds)
                self.assertIs(is_quiet(scene, view), louds == ())

    def test_no_change_alters_more_than_one_entry_of_a_quiet_view(self):
        chance = Random(21)
        for scene in some_scenes(60, seed=21):
            base = some_base(scene, chance, most=5)
            views = [view for view in views_of(scene) if is_quiet(scene, view)]
            for view in chance.sample(views, min(10, len(views))):
                for table in scene.changing:
                    row = tuple(chance.randrange(3) for _ in scene.columns_of(table))
                    self.assertLessEqual(len(altered(base, view, table, row)), 1)

    def test_quiet_views_beside_all_views(self):
        for scene in (SHOP, GOODS, CHAIN, KEYED, *some_scenes(12, tables=4, columns=4, seed=22)):
            quiet = [view for view in all_views(scene) if is_quiet(scene, view)]
            self.assertEqual(list(quiet_views(scene)), quiet)
            self.assertEqual(quiet, sorted(quiet))
        told = quiet_views(KEYED)
        self.same((next(told), next(told), next(told), next(told)),
                  ((("k",), ()), (("k",), ("a",)), (("k",), ("a", "b")), (("k",), ("b",))))
        self.assertNotIn(BY_WHO, list(quiet_views(SHOP)))

    def test_errors(self):
        for function in (is_quiet, loud_by):
            check_errors(self, function, Argument(SHOP, NO_SCENES, InvalidScene),
                         Argument(BY_WHO, no_view(SHOP), InvalidView))
        check_errors(self, quiet_views, Argument(SHOP, NO_SCENES, InvalidScene))


class Others(Case):
    """What becomes quiet, or loud, with other columns and tables [7.2]."""

    def test_fewer_columns_and_more_fixed_tables(self):
        for scene in (SHOP, GOODS, CHAIN, KEYED, *some_scenes(40, tables=4, columns=4, seed=23)):
            for tables, columns in [view for view in views_of(scene) if is_quiet(scene, view)]:
                for fewer in subsets(columns):
                    self.assertIs(is_quiet(scene, (tables, fewer)), True)
                for fixed in subsets(scene.fixed):
                    more = tuple(sorted({*tables, *fixed}))
                    self.assertIs(is_quiet(scene, (more, columns)), True)

    def test_a_keyed_table_is_taken_out(self):
        self.assertIs(is_quiet(GOODS, BY_SHELF), True)
        self.assertIs(is_quiet(GOODS, (("order", "stock"), ("shelf",))), False)

    def test_a_table_that_changes_is_put_in(self):
        self.assertIs(is_quiet(SHOP, (("order",), ("who",))), True)
        self.assertIs(is_quiet(SHOP, BY_WHO), False)

    def test_more_columns(self):
        self.assertIs(is_quiet(SHOP, (("order", "stock"), ("part",))), True)
        self.assertIs(is_quiet(SHOP, (("order", "stock"), ("part", "who"))), False)


class LoudBases(Case):

    def louds(self):
        scenes = (SHOP, GOODS, FAR.freed("s"), KEYED, KEYED.with_key("m", None), *some_scenes(15, tables=4, seed=24))
        for scene in scenes:
            views = views_of(scene)
            for view in views[::max(1, len(views) // 40)]:
                for table in [table for table in view[0] if table in scene.changing]:
                    yield scene, view, table

    def test_so_many_entries_are_altered(self):
        for scene, view, table in self.louds():
            loud = table in slow_loud_by(scene, view)
            for many in (0, 1, 2, 7, 60):
                told = loud_base(scene, view, table, many)
                if not loud:
                    self.assertIsNone(told)
                    continue
                base, row = told
                self.assertIs(type(told), tuple)
                self.assertIsInstance(base, Base)
                self.assertEqual(base.scene, scene)
                self.same(row, (0,) * len(scene.columns_of(table)))
                self.assertGreaterEqual(len(altered(base, view, table, row)), many)
                self.assertIs(is_loud_base(scene, view, table, many, told), True)
                for one in scene.tables:
                    self.assertLessEqual(len(base.rows(one)), max(many, 1))
                    self.assertEqual(set(base.rows(one).values()) - {1}, set())
                    if one == table or one not in view[0]:
                        self.assertEqual(base.rows(one), {})

    def test_rows_that_the_document_tells(self):
        base, row = loud_base(KEYED, (KEYED.tables, ("d", "e")), "t", 3)
        self.same(row, (0,))
        self.told(base.rows("k"), {(0, 0): 1})
        self.told(base.rows("m"), {(0, 0): 1, (1, 1): 1, (2, 2): 1})
        self.told(base.rows("n"), {(0,): 1})
        self.told(base.rows("t"), {})
        self.told(base.rows("u"), {(0, 0): 1, (1, 1): 1, (2, 2): 1})
        base, row = loud_base(SHOP, BY_WHO, "stock", 2)
        self.assertEqual((base, row), (Base(SHOP, order=((0, 0), (0, 1))), (0,)))

    def test_quiet_views_and_tables_that_make_nothing_loud(self):
        for many in (0, 1, 60):
            self.assertIsNone(loud_base(SHOP, BY_WHO, "order", many))
            self.assertIsNone(loud_base(GOODS, BY_SHELF, "order", many))
            self.assertIsNone(loud_base(SHOP, (("order",), ("who",)), "order", many))
        self.assertIs(is_loud_base(GOODS, BY_SHELF, "order", 1, (SHELVES, (10, 3))), True)
        self.assertIs(is_loud_base(GOODS, BY_SHELF, "order", 2, (SHELVES, (10, 3))), False)
        self.assertIs(is_loud_base(GOODS, BY_SHELF, "order", 1, (SHELVES, (30, 3))), False)
        self.assertIs(is_loud_base(GOODS, BY_SHELF, "order", 0, (SHELVES, (30, 3))), True)

    def test_is_loud_base_beside_altered(self):
        chance = Random(25)
        for scene, view, table in self.louds():
            base = some_base(scene, chance, most=6)
            row = tuple(chance.randrange(3) for _ in scene.columns_of(table))
            count = len(altered(base, view, table, row))
            for many in (0, 1, 2, count, count + 1, 60):
                self.assertIs(is_loud_base(scene, view, table, many, (base, row)), count >= many)

    def test_far_more_entries_than_sixty(self):
        base = apart()
        scene, view = base.scene, (base.scene.tables, base.scene.columns)
        self.assertIs(is_loud_base(scene, view, "a", 60, (base, (5,))), True)
        self.assertIs(is_loud_base(scene, view, "a", 60, (base.with_rows("f", ()), (5,))), False)
        self.assertIs(is_loud_base(scene, view, "a", 60, (base, (500,))), True)

    def test_values_of_other_kinds(self):
        good = (WIDE, (0,))
        for many in (0, 1, 3):
            self.assertIs(is_loud_base(SHOP, BY_WHO, "stock", many, good), True)
            for value in [*EVERY, list(good), (WIDE,), (*good, 1), ((0,), WIDE), (WIDE, [0]), (WIDE, 0), (good, good)]:
                self.assertIs(is_loud_base(SHOP, BY_WHO, "stock", many, value), False)
            for row in no_integers(1):
                self.assertIs(is_loud_base(SHOP, BY_WHO, "stock", many, (WIDE, row)), False)
            for base in (WIDE.on(SHOP.held("order")), SHELVES, Base(SHOP.with_table("t", ())), SHOP, None, {}):
                self.assertIs(is_loud_base(SHOP, BY_WHO, "stock", many, (base, (0,))), False)
            self.assertIs(is_loud_base(Scene.of(SHOP.lines), BY_WHO, "stock", many, good), True)
        self.assertIs(is_loud_base(SHOP, BY_WHO, "stock", 0, (DAY, (99,))), True)

    def test_sixty_and_sixty_one(self):
        self.assertIs(is_loud_base(SHOP, BY_WHO, "stock", 60, loud_base(SHOP, BY_WHO, "stock", 60)), True)
        self.assertIs(is_loud_base(SHOP, BY_WHO, "stock", 60, loud_base(SHOP, BY_WHO, "stock", 59)), False)
        for view, table in ((BY_WHO, "stock"), (BY_WHO, "order"), ((("order",), ("who",)), "order")):
            for many in (61, 10 ** 39):
                self.raises_with(TooMany, "limit", 60, loud_base, SHOP, view, table, many)
                self.raises_with(TooMany, "limit", 60, is_loud_base, SHOP, view, table, many, (WIDE, (0,)))

    def test_errors(self):
        arguments = [Argument(SHOP, NO_SCENES, InvalidScene), Argument(BY_WHO, no_view(SHOP), InvalidView),
                     Argument("stock", no_table(SHOP), UnknownName), Argument(3, NO_NUMBERS, InvalidNumber)]
        check_errors(self, loud_base, *arguments)
        check_errors(self, is_loud_base, *arguments, Argument((WIDE, (0,)), [], InvalidScene))
        for call, more in ((loud_base, ()), (is_loud_base, (None,))):
            for many in (0, 5, 61):
                self.raises(InvalidOperation, call, SHOP, BY_WHO, "buyer", many, *more)
                self.raises(InvalidOperation, call, GOODS, BY_SHELF, "place", many, *more)
                self.raises(InvalidOperation, call, GOODS, (("stock",), ()), "place", many, *more)
                self.raises(InvalidOperation, call, SHOP.held("buyer"), BY_WHO, "buyer", many, *more)
            self.raises_with(InvalidNumber, "value", -1, call, SHOP, BY_WHO, "buyer", -1, *more)
            self.raises_with(InvalidNumber, "value", True, call, GOODS, BY_SHELF, "place", True, *more)

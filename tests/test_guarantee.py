"""The main guarantee [0.21], as far as books tell it, and scenes that show that no sentence of [0.22] is true."""

from math import prod
from random import Random

from fewtouched.base.bases import Base
from fewtouched.base.matches import answer, difference
from fewtouched.base.scenes import Scene
from fewtouched.books.books import book, first_strained, followed, is_quiet_book
from fewtouched.books.pieces import factors, number_by, piece_views, pieces
from fewtouched.strain.bridges import bridge, bridges, is_served, strained_tables, strains
from fewtouched.views.closures import finds
from fewtouched.views.quiet import is_quiet
from fewtouched.views.views import altered, entries, entry
from tests.oracle import role_columns, roles_of, some_base, some_scenes, subsets
from tests.values import CHAIN, Case, FAR, GOODS, SHOP

# The key of t leads from a to w, and by it to y, although neither a nor c has a column of t.
KEYS = Scene(changing={"a": ("x",), "c": ("y",)}, fixed={"s": ("x", "z"), "t": ("w", "z"), "u": ("w", "y")},
             keyed={"s": ("x",), "u": ("w",)})


class Guaranteed(Case):
    """A test with a look at all that is promised of a scene."""

    def check(self, scene, seed=0):
        chance = Random(seed)
        bases = [some_base(scene, chance, most=5) for _ in range(3)]
        for role in roles_of(scene):
            served = is_served(scene, role)
            self.assertEqual(served, strained_tables(scene, role) == ())
            self.assertEqual(served, all(is_quiet(scene, view) for view in piece_views(scene, role)))
            for base in bases:
                self.check_number(base, role, chance)
        self.check_tables(scene)
        doors = subsets(scene.columns)
        for told in ((), (doors[-1], ()), *[(door,) for door in doors]):
            every = all(is_served(scene, role) for role in [*scene.changing, *told])
            self.assertEqual(is_quiet_book(scene, told), every)
            self.assertEqual(first_strained(scene, told) is None, every)
        for base in bases:
            self.check_followed(base, (doors[len(doors) // 2],), chance)

    def check_number(self, base, role, chance):
        integers = tuple(chance.randrange(3) for _ in role_columns(base.scene, role))
        number = difference(base, role, integers) if isinstance(role, str) else answer(base, role, integers)
        told = factors(base, role, integers)
        self.same(number, 0 if told is None else prod(one[2] for one in told))
        self.same(number, number_by(base, role, integers))

    def check_tables(self, scene):
        before = set(strains(scene))
        for table in scene.changing:
            for other in strained_tables(scene, table):
                self.assertIn(table, strained_tables(scene, other))
            self.assertLessEqual(set(strains(scene.held(table))), before)
        for table in scene.fixed:
            if scene.key_of(table) is None:
                for key in subsets(scene.columns_of(table)):
                    keyed = scene.with_key(table, key)
                    self.assertLessEqual(set(strains(keyed)), before)
                    for door in subsets(scene.columns):
                        self.assertLessEqual(set(strained_tables(keyed, door)), set(strained_tables(scene, door)))

    def check_followed(self, base, doors, chance):
        """That the views that are followed tell how the entries of a view rise."""
        for view, role, views in followed(base.scene, doors):
            integers = tuple(chance.randrange(3) for _ in role_columns(base.scene, role))
            found = finds(base, role, integers, tables=view[0])
            product = 0 if found is None else prod(entry(base, one, tuple(found[column] for column in one[1]))
                                                   for one in views)
            if not isinstance(role, str):
                self.same(entry(base, view, integers), product)
                continue
            rise = altered(base, view, role, integers)
            self.same(sum(rise.values()), product)
            if is_quiet(base.scene, view) and product > 0:
                self.told(rise, {tuple(found[column] for column in view[1]): product})


class ManyScenes(Guaranteed):

    def test_scenes_of_the_document(self):
        for scene in (SHOP, GOODS, CHAIN, FAR, KEYS):
            for held in subsets(scene.changing):
                self.check(scene.held(*held))

    def test_little_scenes(self):
        for seed, scene in enumerate(some_scenes(40, tables=5, columns=4, seed=60)):
            self.check(scene, seed)

    def test_a_quiet_book_is_followed_through_changes(self):
        chance, quiet = Random(61), 0
        for scene in some_scenes(80, tables=4, columns=4, seed=61):
            if not scene.changing or not is_quiet_book(scene):
                continue
            quiet += 1
            base = some_base(scene, chance)
            kept = {view: entries(base, view) for view in book(scene)}
            for _ in range(6):
                table = chance.choice(scene.changing)
                row = tuple(chance.randrange(3) for _ in scene.columns_of(table))
                self.follow(base, kept, table, row)
                base = base.put(table, row)
                self.assertEqual(kept, {view: entries(base, view) for view in book(scene)})
        self.assertGreater(quiet, 20)

    def follow(self, base, kept, table, row):
        """Change what is kept of each view by what is kept of others alone."""
        before = {view: dict(told) for view, told in kept.items()}
        for view, role, views in followed(base.scene):
            found = finds(base, role, row, tables=view[0]) if role == table else None
            if found is not None:
                rise = prod(before[one].get(tuple(found[column] for column in one[1]), 0) for one in views)
                key = tuple(found[column] for column in view[1])
                if rise:
                    kept[view][key] = kept[view].get(key, 0) + rise


class Untrue(Guaranteed):
    """Each of the twelve sentences of [0.22], in their order."""

    def test_a_join_that_can_be_laid_out_as_a_tree_has_a_quiet_book(self):
        # buyer - order - stock: each column stands in neighbours alone.
        self.assertIs(is_quiet_book(SHOP), False)
        self.check(SHOP)

    def test_a_fixed_table_between_two_that_change_keeps_them_apart(self):
        scene = SHOP.held("order")
        self.same(strains(scene), (("buyer", "stock"),))
        self.assertIs(is_quiet_book(scene), False)
        self.check(scene)

    def test_if_the_total_can_be_kept_each_door_is_served(self):
        self.assertIs(is_quiet_book(GOODS), True)
        self.same(strained_tables(GOODS, ("who",)), ("stock",))
        self.check(GOODS)

    def test_a_door_with_more_columns_is_easier_to_serve(self):
        self.assertIs(is_served(GOODS, ()), True)
        self.assertIs(is_served(GOODS, ("who",)), False)
        self.check(GOODS)

    def test_a_door_with_fewer_columns_is_easier_to_serve(self):
        self.assertIs(is_served(GOODS, ("part", "who")), True)
        self.assertIs(is_served(GOODS, ("who",)), False)
        self.check(GOODS)

    def test_a_key_changes_nothing_for_tables_that_do_not_have_its_columns(self):
        self.assertFalse({*KEYS.columns_of("a"), *KEYS.columns_of("c")} & {*KEYS.columns_of("t")})
        self.same(strains(KEYS), (("a", "c"),))
        self.same(strains(KEYS.with_key("t", ("z",))), ())
        self.check(KEYS)
        self.check(KEYS.with_key("t", ("z",)))

    def test_a_view_with_fewer_tables_is_always_quieter(self):
        self.assertIs(is_quiet(GOODS, (("order", "place", "stock"), ("shelf",))), True)
        self.assertIs(is_quiet(GOODS, (("order", "stock"), ("shelf",))), False)
        self.check(GOODS)

    def test_a_book_has_at_most_one_view_for_each_set_of_tables(self):
        told = [columns for tables, columns in book(SHOP) if tables == ("order",)]
        self.assertEqual(told, [("part",), ("who",)])
        self.check(SHOP)

    def test_two_tables_that_have_a_column_in_common_are_strained(self):
        scene = SHOP.without("stock")
        self.same(strains(scene), ())
        self.assertIs(is_quiet_book(scene), True)
        self.assertNotIn(("buyer", "order"), strains(SHOP))
        self.check(scene)

    def test_a_bridge_never_needs_more_than_one_table(self):
        self.assertEqual(list(bridges(FAR, "a", "b")), [("s", "u")])
        self.same(bridge(FAR, "a", "b"), ("s", "u"))
        self.check(FAR)

    def test_to_let_a_fixed_table_change_leaves_all_others_as_they_are(self):
        self.same(strains(GOODS), ())
        self.same(strains(GOODS.freed("place")), (("order", "stock"),))
        self.check(GOODS.freed("place"))

    def test_a_served_role_has_one_piece(self):
        self.assertIs(is_served(SHOP, "order"), True)
        self.same(pieces(SHOP, "order"), (("buyer",), ("stock",)))
        base = Base(SHOP, buyer=((1,),) * 2, stock=((10,),) * 3)
        self.same(number_by(base, "order", (10, 1)), 6)
        self.check(SHOP)

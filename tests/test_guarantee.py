"""The main guarantee [0.21], and scenes that show that no sentence of [0.22] is true."""

from itertools import product
from math import prod
from random import Random

from fewtouched.base.bases import Base
from fewtouched.base.matches import answer, difference, total_of
from fewtouched.base.scenes import Scene
from fewtouched.books.books import book, costs, first_strained, followed, is_quiet_book
from fewtouched.books.keeper import Keeper
from fewtouched.books.pieces import factors, number_by, piece_views, pieces
from fewtouched.books.shifts import Shift
from fewtouched.desk.desk import Desk
from fewtouched.errors import NotThere, Strained, TouchError
from fewtouched.strain.bridges import bridge, bridges, is_served, strained_tables, strains
from fewtouched.strain.served import fewest_phases, greatest_together, least_still
from fewtouched.strain.twins import is_twins, twins
from fewtouched.views.closures import finds
from fewtouched.views.quiet import is_quiet
from fewtouched.views.views import altered, entries, entry
from tests.oracle import role_columns, roles_of, some_base, some_scenes, subsets
from tests.slow import some_changes
from tests.values import CHAIN, Case, FAR, GOODS, SHOP

# The key of t leads from a to w, and by it to y, although neither a nor c has a column of t.
KEYS = Scene(changing={"a": ("x",), "c": ("y",)}, fixed={"s": ("x", "z"), "t": ("w", "z"), "u": ("w", "y")},
             keyed={"s": ("x",), "u": ("w",)})


class Guaranteed(Case):
    """A test with a look at all that is promised of a scene."""

    def check(self, scene, seed=0):
        chance = Random(seed)
        bases = [some_base(scene, chance, most=5) for _ in range(3)]
        for role in roles_of(scene):
            served = is_served(scene, role)
            self.assertEqual(served, strained_tables(scene, role) == ())
            self.assertEqual(served, all(is_quiet(scene, view) for view in piece_views(scene, role)))
            for base in bases:
                self.check_number(base, role, chance)
        self.check_tables(scene)
        self.check_twins(scene, chance)
        doors = subsets(scene.columns)
        for told in ((), (doors[-1], ()), *[(door,) for door in doors]):
            every = all(is_served(scene, role) for role in [*scene.changing, *told])
            self.assertEqual(is_quiet_book(scene, told), every)
            self.assertEqual(first_strained(scene, told) is None, every)
        for base in bases:
            self.check_followed(base, (doors[len(doors) // 2],), chance)

    def check_number(self, base, role, chance):
        integers = tuple(chance.randrange(3) for _ in role_columns(base.scene, role))
        number = difference(base, role, integers) if isinstance(role, str) else answer(base, role, integers)
        told = factors(base, role, integers)
        self.same(number, 0 if told is None else prod(one[2] for one in told))
        self.same(number, number_by(base, role, integers))

    def check_tables(self, scene):
        before = set(strains(scene))
        for table in scene.changing:
            for other in strained_tables(scene, table):
                self.assertIn(table, strained_tables(scene, other))
            self.assertLessEqual(set(strains(scene.held(table))), before)
        for table in scene.fixed:
            if scene.key_of(table) is None:
                for key in subsets(scene.columns_of(table)):
                    keyed = scene.with_key(table, key)
                    self.assertLessEqual(set(strains(keyed)), before)
                    for door in subsets(scene.columns):
                        self.assertLessEqual(set(strained_tables(keyed, door)), set(strained_tables(scene, door)))

    def check_twins(self, scene, chance):
        """That exactly the strained roles have twins."""
        for role in chance.sample(roles_of(scene), min(6, len(roles_of(scene)))):
            told = twins(scene, role)
            self.assertEqual(told is None, is_served(scene, role))
            if told is not None:
                self.assertTrue(is_twins(scene, role, told))
                self.assertNotEqual(number_by(told[1], role, told[0]), number_by(told[2], role, told[0]))

    def check_followed(self, base, doors, chance):
        """That the views that are followed tell how the entries of a view rise."""
        for view, role, views in followed(base.scene, doors):
            integers = tuple(chance.randrange(3) for _ in role_columns(base.scene, role))
            found = finds(base, role, integers, tables=view[0])
            product = 0 if found is None else prod(entry(base, one, tuple(found[column] for column in one[1]))
                                                   for one in views)
            if not isinstance(role, str):
                self.same(entry(base, view, integers), product)
                continue
            rise = altered(base, view, role, integers)
            self.same(sum(rise.values()), product)
            if is_quiet(base.scene, view) and product > 0:
                self.told(rise, {tuple(found[column] for column in view[1]): product})


class ManyScenes(Guaranteed):

    def test_scenes_of_the_document(self):
        for scene in (SHOP, GOODS, CHAIN, FAR, KEYS):
            for held in subsets(scene.changing):
                self.check(scene.held(*held))

    def test_little_scenes(self):
        for seed, scene in enumerate(some_scenes(40, tables=5, columns=4, seed=60)):
            self.check(scene, seed)

    def test_a_quiet_book_is_followed_through_changes(self):
        chance, quiet = Random(61), 0
        for scene in some_scenes(80, tables=4, columns=4, seed=61):
            if not scene.changing or not is_quiet_book(scene):
                continue
            quiet += 1
            base = some_base(scene, chance)
            kept = {view: entries(base, view) for view in book(scene)}
            for _ in range(6):
                table = chance.choice(scene.changing)
                row = tuple(chance.randrange(3) for _ in scene.columns_of(table))
                self.follow(base, kept, table, row)
                base = base.put(table, row)
                self.assertEqual(kept, {view: entries(base, view) for view in book(scene)})
        self.assertGreater(quiet, 20)

    def follow(self, base, kept, table, row):
        """Change what is kept of each view by what is kept of others alone."""
        before = {view: dict(told) for view, told in kept.items()}
        for view, role, views in followed(base.scene):
            found = finds(base, role, row, tables=view[0]) if role == table else None
            if found is not None:
                rise = prod(before[one].get(tuple(found[column] for column in one[1]), 0) for one in views)
                key = tuple(found[column] for column in view[1])
                if rise:
                    kept[view][key] = kept[view].get(key, 0) + rise


class KeptUp(Case):
    """All of this holds for keepers, through phases, and at a desk after any edits, undone or not."""

    def test_sets_and_phases_are_those_of_a_graph(self):
        for scene in some_scenes(60, seed=62):
            edges = {frozenset(pair) for pair in strains(scene)}
            for door in ((), scene.columns, scene.columns[:1]):
                bad = {table for table in scene.changing if table in strained_tables(scene, door)}
                apart = [set(some) for some in subsets(scene.changing)
                         if not bad & set(some) and not any(edge <= set(some) for edge in edges)]
                most = sorted(tuple(sorted(some)) for some in apart if not any(some < more for more in apart))
                self.same(greatest_together(scene, doors=(door,)), tuple(most))
                least = sorted(tuple(sorted(set(scene.changing) - set(some))) for some in most)
                self.same(least_still(scene, doors=(door,)), tuple(least))
            phases = fewest_phases(scene)
            self.assertFalse(any(edge <= set(phase) for edge in edges for phase in phases))
            for colours in product(range(max(len(phases) - 1, 0)), repeat=len(scene.changing)):
                told = dict(zip(scene.changing, colours))
                self.assertTrue(any(len({told[table] for table in edge}) == 1 for edge in edges) or len(phases) == 0)

    def test_keepers_and_shifts(self):
        chance, quiet = Random(63), 0
        for scene in some_scenes(80, tables=4, columns=4, seed=63):
            if scene.changing:
                base = some_base(scene, chance)
                doors = tuple(door for door in subsets(scene.columns) if is_served(scene, door))[:3]
                keeper = Keeper(base, *doors) if is_quiet_book(scene) else None
                shift = Shift(base, fewest_phases(scene))
                quiet += keeper is not None
                for table, row, many in some_changes(base, chance, 8):
                    change = "put" if many >= 0 else "take"
                    getattr(shift, change)(table, row, many=abs(many))
                    if keeper is not None:
                        getattr(keeper, change)(table, row, many=abs(many))
                        self.assertIn(keeper.last[0], (0, costs(scene, doors)[table][0]))
                        self.assertLessEqual(keeper.last[1], costs(scene, doors)[table][1])
                shift.settle()
                self.same(shift.total, total_of(shift.base))
                self.check_keeper(keeper, shift.base, doors, chance)
        self.assertGreater(quiet, 20)

    def check_keeper(self, keeper, base, doors, chance):
        if keeper is not None:
            self.assertEqual(keeper.base, base)
            self.same(keeper.total, total_of(base))
            for door in doors:
                integers = tuple(chance.randrange(3) for _ in door)
                self.same(keeper(door, integers), answer(base, door, integers))
                self.assertIn(keeper.last, ((0, 0), costs(base.scene, doors)[door]))

    def test_a_desk(self):
        chance, desk, made = Random(64), Desk(), 0
        scenes = some_scenes(40, tables=4, columns=4, seed=64)
        for _ in range(300):
            edits = [("drop", "a")] if "a" in desk and chance.random() < 0.2 else []
            edits += [("scene", "a", some_base(chance.choice(scenes), chance))] if "a" not in desk or edits else []
            scene = edits[-1][2].scene if edits else desk.base_of("a").scene
            table = chance.choice(scene.tables)
            row = tuple(chance.randrange(3) for _ in scene.columns_of(table))
            edits += [chance.choice((("put", "a", table, row, 2), ("hold", "a", table), ("free", "a", table),
                                     ("open", "a", chance.choice(subsets(scene.columns))), ("rows", "a", table, (row,)),
                                     ("key", "a", table, None), ("key", "a", table, scene.columns_of(table))))]
            try:
                made += desk.apply_all(tuple(edits)) > 0
            except (TouchError, Strained, NotThere):
                pass
            if chance.random() < 0.2 and len(desk) > 1:
                desk.undo(many=chance.randint(0, 1))
            if "a" in desk:
                base, doors = desk.base_of("a"), desk.doors_of("a")
                self.assertTrue(is_quiet_book(base.scene, doors))
                self.same(desk.total_at("a"), total_of(base))
                self.check_keeper(desk.keeper("a"), base, doors, chance)
                for door in doors:
                    integers = tuple(chance.randrange(3) for _ in door)
                    self.same(desk.ask("a", door, integers), answer(base, door, integers))
        self.assertGreater(made, 100)


class Untrue(Guaranteed):
    """Each of the twelve sentences of [0.22], in their order."""

    def test_a_join_that_can_be_laid_out_as_a_tree_has_a_quiet_book(self):
        # buyer - order - stock: each column stands in neighbours alone.
        self.assertIs(is_quiet_book(SHOP), False)
        self.check(SHOP)

    def test_a_fixed_table_between_two_that_change_keeps_them_apart(self):
        scene = SHOP.held("order")
        self.same(strains(scene), (("buyer", "stock"),))
        self.assertIs(is_quiet_book(scene), False)
        self.check(scene)

    def test_if_the_total_can_be_kept_each_door_is_served(self):
        self.assertIs(is_quiet_book(GOODS), True)
        self.same(strained_tables(GOODS, ("who",)), ("stock",))
        self.check(GOODS)

    def test_a_door_with_more_columns_is_easier_to_serve(self):
        self.assertIs(is_served(GOODS, ()), True)
        self.assertIs(is_served(GOODS, ("who",)), False)
        self.check(GOODS)

    def test_a_door_with_fewer_columns_is_easier_to_serve(self):
        self.assertIs(is_served(GOODS, ("part", "who")), True)
        self.assertIs(is_served(GOODS, ("who",)), False)
        self.check(GOODS)

    def test_a_key_changes_nothing_for_tables_that_do_not_have_its_columns(self):
        self.assertFalse({*KEYS.columns_of("a"), *KEYS.columns_of("c")} & {*KEYS.columns_of("t")})
        self.same(strains(KEYS), (("a", "c"),))
        self.same(strains(KEYS.with_key("t", ("z",))), ())
        self.check(KEYS)
        self.check(KEYS.with_key("t", ("z",)))

    def test_a_view_with_fewer_tables_is_always_quieter(self):
        self.assertIs(is_quiet(GOODS, (("order", "place", "stock"), ("shelf",))), True)
        self.assertIs(is_quiet(GOODS, (("order", "stock"), ("shelf",))), False)
        self.check(GOODS)

    def test_a_book_has_at_most_one_view_for_each_set_of_tables(self):
        told = [columns for tables, columns in book(SHOP) if tables == ("order",)]
        self.assertEqual(told, [("part",), ("who",)])
        self.check(SHOP)

    def test_two_tables_that_have_a_column_in_common_are_strained(self):
        scene = SHOP.without("stock")
        self.same(strains(scene), ())
        self.assertIs(is_quiet_book(scene), True)
        self.assertNotIn(("buyer", "order"), strains(SHOP))
        self.check(scene)

    def test_a_bridge_never_needs_more_than_one_table(self):
        self.assertEqual(list(bridges(FAR, "a", "b")), [("s", "u")])
        self.same(bridge(FAR, "a", "b"), ("s", "u"))
        self.check(FAR)

    def test_to_let_a_fixed_table_change_leaves_all_others_as_they_are(self):
        self.same(strains(GOODS), ())
        self.same(strains(GOODS.freed("place")), (("order", "stock"),))
        self.check(GOODS.freed("place"))

    def test_a_served_role_has_one_piece(self):
        self.assertIs(is_served(SHOP, "order"), True)
        self.same(pieces(SHOP, "order"), (("buyer",), ("stock",)))
        base = Base(SHOP, buyer=((1,),) * 2, stock=((10,),) * 3)
        self.same(number_by(base, "order", (10, 1)), 6)
        self.check(SHOP)

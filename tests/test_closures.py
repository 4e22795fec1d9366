"""Stage 5: closures, and what a role finds."""

from random import Random

from fewtouched.base.bases import Base
from fewtouched.base.scenes import Scene
from fewtouched.errors import InvalidBase, InvalidOperation, InvalidRole, InvalidScene
from fewtouched.views.closures import closure, finds, key_steps, names_of, reached
from tests.arguments import Argument, check_errors
from tests.oracle import (role_columns, roles_of, slow_closure, slow_finds, slow_reached, some_base, some_scenes,
                          subsets)
from tests.values import (CHAIN, Case, DAY, EVERY, GOODS, LONG, NO_BASES, NO_SCENES, SHELVES, SHOP, no_columns,
                          no_integers, no_role, no_tables)

# Keys that lead on in several steps, against the order of the names; one key is (), one is all columns.
STEPS = Scene(changing={"move": ("a",)},
              fixed={"z": ("a", "b"), "y": ("b", "c"), "x": ("c", "d"), "any": ("e",), "all": ("d", "e")},
              keyed={"z": ("a",), "y": ("b",), "x": ("c",), "any": (), "all": ("d", "e")})
TWICE = Scene(changing={"move": ("a", "b")}, fixed={"one": ("a", "c"), "two": ("b", "c")},
              keyed={"one": ("a",), "two": ("b",)})


class Document(Case):

    def test_examples(self):
        self.assertEqual(
            [closure(CHAIN, ("a",), ("r", "t")), closure(CHAIN, ("a",), ("s", "t")),
             reached(CHAIN, ("b", "c"), ("s", "t")), key_steps(CHAIN, ("a",), ("s", "t"))],
            [("a",), ("a", "b", "c"), ("t",), ("s", "t")])
        self.assertEqual(
            [names_of(GOODS, "order"), names_of(GOODS, ("shelf",)), finds(SHELVES, "order", (10, 5)),
             finds(SHELVES, "order", (30, 5))],
            [("part", "shelf", "who"), ("shelf",), {"part": 10, "shelf": 7, "who": 5}, None])
        self.assertEqual(
            [finds(SHELVES, ("part", "shelf"), (20, 8)), finds(SHELVES, "order", (30, 5), tables=("order", "stock"))],
            [None, {"part": 30, "who": 5}])

    def test_names_that_stage_8_tells(self):
        long = Scene(changing={"a": ("x",), "b": ("y",)}, fixed={"s": ("x", "z"), "u": ("y", "z")})
        both = long.with_key("s", ("x",)).with_key("u", ("z",))
        self.same((names_of(both, "a"), names_of(both, "b")), (("x", "y", "z"), ("y",)))


class Closures(Case):

    def test_several_steps(self):
        self.same(closure(STEPS, ("a",), STEPS.tables), ("a", "b", "c", "d", "e"))
        self.same(closure(STEPS, ("a",), ("x", "y", "z")), ("a", "b", "c", "d"))
        self.same(closure(STEPS, ("a",), ("x", "z")), ("a", "b"))
        self.same(closure(STEPS, ("b",), ("x", "y", "z")), ("b", "c", "d"))
        self.same(closure(STEPS, (), ("x", "y", "z")), ())
        self.same(closure(STEPS, (), STEPS.tables), ("e",))
        self.same(closure(STEPS, (), ("any",)), ("e",))
        self.same(closure(STEPS, ("d",), ("all",)), ("d",))

    def test_reached(self):
        self.same(reached(STEPS, ("a",), STEPS.tables), ("all", "any", "x", "y", "z"))
        self.same(reached(STEPS, (), STEPS.tables), ("any",))
        self.same(reached(STEPS, ("d",), STEPS.tables), ("all", "any"))
        self.same(reached(STEPS, ("d",), ("all", "x")), ())
        self.same(reached(STEPS, ("c",), ("x", "y", "z")), ("x",))
        self.same(reached(SHOP, ("part", "who"), SHOP.tables), ())
        self.same(reached(STEPS, ("a",), ("move",)), ())

    def test_order_of_the_steps(self):
        self.same(key_steps(STEPS, ("a",), STEPS.tables), ("any", "z", "y", "x", "all"))
        self.same(key_steps(STEPS, ("a", "b"), STEPS.tables), ("any", "y", "x", "all", "z"))
        self.same(key_steps(STEPS, ("a", "c"), ("x", "y", "z")), ("x", "z", "y"))
        self.same(key_steps(STEPS, (), ("x", "y", "z")), ())
        self.same(key_steps(STEPS, ("d", "e"), ("all", "any")), ("all", "any"))
        self.same(key_steps(CHAIN, ("b",), ("s", "t")), ("t",))

    def test_columns_that_no_given_table_has(self):
        self.same(closure(STEPS, ("c", "e"), ("z",)), ("c", "e"))
        self.same(closure(STEPS, ("a", "e"), ("z",)), ("a", "b", "e"))
        self.same(key_steps(STEPS, ("a", "e"), ("z",)), ("z",))
        self.same(closure(GOODS, ("who",), ("stock",)), ("who",))

    def test_tables_without_a_key_add_nothing(self):
        free = GOODS.with_key("place", None)
        self.same(closure(free, ("part",), free.tables), ("part",))
        self.same(closure(SHOP, ("part",), SHOP.tables), ("part",))
        self.same(closure(GOODS.freed("place"), ("part",), GOODS.tables), ("part",))

    def test_tables_without_columns(self):
        bare = Scene(changing={"t": ("a",)}, fixed={"k": ()}, keyed={"k": ()})
        self.same(closure(bare, ("a",), ("k", "t")), ("a",))
        self.same(reached(bare, (), ("k",)), ("k",))
        self.same(key_steps(bare, ("a",), ("k", "t")), ("k",))

    def test_beside_the_slow_way(self):
        for scene in some_scenes(80, seed=1):
            for tables in subsets(scene.tables)[1:14]:
                for columns in subsets(scene.columns):
                    self.same(closure(scene, columns, tables), slow_closure(scene, columns, tables))
                    self.same(reached(scene, columns, tables), slow_reached(scene, columns, tables))
                    self.same(key_steps(scene, columns, tables), self.steps(scene, columns, tables))

    def steps(self, scene, columns, tables):
        """The reached tables, each the least one that has a key in what one has by then."""
        have, order, left = set(columns), [], list(slow_reached(scene, columns, tables))
        while left:
            table = min(one for one in left if set(scene.key_of(one)) <= have)
            left.remove(table)
            order.append(table)
            have |= set(scene.columns_of(table))
        return tuple(order)

    def test_errors(self):
        for function in (closure, reached, key_steps):
            check_errors(self, function, Argument(SHOP, NO_SCENES, InvalidScene),
                         Argument(("part",), no_columns(SHOP), InvalidOperation),
                         Argument(("order",), no_tables(SHOP), InvalidOperation))


class Names(Case):

    def test_of_roles(self):
        self.same(names_of(SHOP, "order"), ("part", "who"))
        self.same(names_of(SHOP, ()), ())
        self.same(names_of(STEPS, ()), ("e",))
        self.same(names_of(STEPS, "move"), ("a", "b", "c", "d", "e"))
        self.same(names_of(STEPS, ("c",)), ("c", "d", "e"))
        self.same(names_of(GOODS, ("part",)), ("part", "shelf"))

    def test_table_and_door_with_one_name(self):
        scene = Scene(changing={"who": ("part",)}, fixed={"t": ("part", "who")})
        self.same((names_of(scene, "who"), names_of(scene, ("who",))), (("part",), ("who",)))

    def test_beside_the_slow_way(self):
        for scene in some_scenes(60, seed=2):
            for role in roles_of(scene):
                self.same(names_of(scene, role), slow_closure(scene, role_columns(scene, role), scene.tables))

    def test_errors(self):
        for scene in (SHOP, GOODS, CHAIN):
            check_errors(self, names_of, Argument(scene, NO_SCENES, InvalidScene),
                         Argument(scene.changing[0], no_role(scene), InvalidRole))
        self.raises(InvalidRole, names_of, GOODS, "place")
        self.raises(InvalidRole, names_of, GOODS, ("part", "place"))


class Finds(Case):

    def test_all_tables(self):
        base = Base(STEPS, z=((1, 2), (5, 2)), y=((2, 3),), x=((3, 4),), any=((9,),), all=((4, 9), (4, 8)))
        self.told(finds(base, "move", (1,)), {"a": 1, "b": 2, "c": 3, "d": 4, "e": 9})
        self.told(finds(base, "move", (5,)), {"a": 5, "b": 2, "c": 3, "d": 4, "e": 9})
        self.assertIsNone(finds(base, "move", (2,)))
        self.told(finds(base, ("c",), (3,)), {"c": 3, "d": 4, "e": 9})
        self.assertIsNone(finds(base, ("c",), (4,)))
        self.told(finds(base, (), ()), {"e": 9})
        self.told(finds(base, ("e",), (9,)), {"e": 9})
        self.assertIsNone(finds(base, ("e",), (8,)))
        self.assertIsNone(finds(base.with_rows("all", ((4, 8),)), "move", (1,)))
        self.assertIsNone(finds(base.with_rows("any", ()), (), ()))
        self.told(finds(base, ("d", "e"), (4, 9), tables=None), {"d": 4, "e": 9})
        self.assertIsNone(finds(base, ("d", "e"), (5, 9)))

    def test_some_tables(self):
        base = Base(STEPS, z=((1, 2),), y=((2, 3),), any=((9,),))
        self.told(finds(base, "move", (1,), tables=("z",)), {"a": 1, "b": 2})
        self.told(finds(base, "move", (1,), tables=("y",)), {"a": 1})
        self.told(finds(base, "move", (7,), tables=("y",)), {"a": 7})
        self.told(finds(base, "move", (1,), tables=("y", "z")), {"a": 1, "b": 2, "c": 3})
        self.assertIsNone(finds(base, "move", (1,), tables=("x", "y", "z")))
        self.told(finds(base, "move", (1,), tables=("x", "z")), {"a": 1, "b": 2})
        self.told(finds(base, ("b", "d"), (2, LONG), tables=("y",)), {"b": 2, "c": 3, "d": LONG})

    def test_tables_without_the_role(self):
        self.told(finds(SHELVES, "order", (10, 5), tables=("place",)), {"part": 10, "shelf": 7, "who": 5})
        self.told(finds(SHELVES, "order", (30, 5), tables=("stock",)), {"part": 30, "who": 5})
        self.assertIsNone(finds(SHELVES, "order", (30, 5), tables=("place", "stock")))

    def test_rows_of_the_role_do_not_matter(self):
        for base in (SHELVES, SHELVES.with_rows("order", ()), SHELVES.with_rows("stock", ())):
            self.told(finds(base, "order", (20, 5)), {"part": 20, "shelf": 7, "who": 5})
            self.told(finds(base, "stock", (5,)), {"shelf": 5})

    def test_one_column_told_by_two_tables(self):
        base = Base(TWICE, one=((1, 5), (2, 6)), two=((1, 5), (2, 5)))
        self.told(finds(base, "move", (1, 2)), {"a": 1, "b": 2, "c": 5})
        self.assertIsNone(finds(base, "move", (2, 1)))
        self.told(finds(base, "move", (2, 1), tables=("one",)), {"a": 2, "b": 1, "c": 6})
        self.told(finds(base, "move", (2, 1), tables=("two",)), {"a": 2, "b": 1, "c": 5})
        self.told(finds(base, ("a", "c"), (1, 5)), {"a": 1, "c": 5})
        self.assertIsNone(finds(base, ("a", "c"), (1, 6)))

    def test_fixed_tables_without_a_key_tell_nothing(self):
        free = SHELVES.on(GOODS.with_key("place", None))
        self.told(finds(free, "order", (30, 5)), {"part": 30, "who": 5})

    def test_beside_the_slow_way(self):
        chance = Random(3)
        for scene in some_scenes(150, seed=3):
            base = some_base(scene, chance)
            for role in roles_of(scene)[:20]:
                columns = role_columns(scene, role)
                for tables in [scene.tables] + subsets(scene.tables)[1:4]:
                    integers = tuple(chance.randrange(3) for _ in columns)
                    choices = slow_finds(base, columns, integers, tables)
                    self.assertLessEqual(len(choices), 1)
                    found = finds(base, role, integers, tables=tables)
                    if choices:
                        self.told(found, choices[0])
                    else:
                        self.assertIsNone(found)
                    if tables == scene.tables:
                        self.assertEqual(finds(base, role, integers), found)

    def test_a_returned_dict_is_a_new_one(self):
        finds(SHELVES, "order", (10, 5))["part"] = 11
        self.told(finds(SHELVES, "order", (10, 5)), {"part": 10, "shelf": 7, "who": 5})

    def test_errors(self):
        check_errors(self, finds, Argument(SHELVES, NO_BASES, InvalidBase),
                     Argument("order", no_role(GOODS), InvalidRole), Argument((10, 1), no_integers(2), InvalidOperation),
                     Argument(("place",), [value for value in no_tables(GOODS) if value is not None], InvalidOperation,
                              "tables"))
        check_errors(self, finds, Argument(DAY, NO_BASES, InvalidBase), Argument((), no_role(SHOP), InvalidRole),
                     Argument((), no_integers(0), InvalidOperation))
        for value in EVERY:
            if value != ():
                self.raises(InvalidOperation, finds, DAY, (), value, tables=("zz",))

"""Stage 13: what can change together."""

from itertools import permutations

from fewtouched.base.scenes import Scene
from fewtouched.errors import InvalidOperation, InvalidRole, InvalidScene
from fewtouched.strain.bridges import is_served, strained_tables, strains
from fewtouched.strain.served import (fewest_phases, greatest_together, is_phases, least_still, served_doors, together)
from tests.arguments import Argument, check_errors
from tests.oracle import slow_strained, some_scenes, subsets
from tests.slow import partitions, slow_phases, slow_together
from tests.values import CHAIN, Case, EVERY, FAR, GOODS, NO_SCENES, SHOP, no_doors

# Six tables in a ring of columns: around it there is a bridge between any two of them.
RING = Scene(changing={"t" + one: (one, other) for one, other in zip("abcdef", "bcdefa")})
STAR = Scene(changing={"a": ("x",), "b": ("y",), "c": ("z",), "hub": ("x", "y", "z")})
ALONE = Scene(changing={name: () for name in "abcdef"})
STILL = SHOP.held("buyer", "order", "stock")
SCENES = (SHOP, GOODS, CHAIN, FAR, RING, STAR, ALONE, STILL)


def doors_of(scene):
    doors = subsets(scene.columns)
    return [(), (doors[-1],), (doors[1 % len(doors)],), (doors[-2 % len(doors)], (), doors[-2 % len(doors)])]


class Document(Case):

    def test_examples(self):
        self.assertEqual(
            [greatest_together(SHOP), least_still(SHOP), fewest_phases(SHOP), list(served_doors(SHOP))],
            [(("buyer", "order"), ("order", "stock")), (("buyer",), ("stock",)), (("buyer",), ("order", "stock")),
             [(), ("part", "who")]])
        self.assertEqual(
            [together(SHOP, ("order", "stock"), doors=(("part",),)), least_still(SHOP, doors=(("part",),)),
             is_phases(SHOP, (("order",), ("stock",), ("buyer",))), fewest_phases(GOODS)],
            [True, (("buyer",),), True, (("order", "stock"),)])


class Doors(Case):

    def test_all(self):
        for scene in (*SCENES, *some_scenes(60, seed=90)):
            told = list(served_doors(scene))
            self.assertEqual(told, [door for door in subsets(scene.columns) if is_served(scene, door)])
            self.assertIn((), told)
            self.assertIn(scene.columns, told)
        for scene in some_scenes(12, seed=91, tables=5, columns=4):
            told = [door for door in subsets(scene.columns) if not slow_strained(scene, door)]
            self.assertEqual(list(served_doors(scene)), told)

    def test_one_by_one_and_errors(self):
        generator = served_doors(SHOP)
        self.same((next(generator), next(generator)), ((), ("part", "who")))
        check_errors(self, served_doors, Argument(SHOP, NO_SCENES, InvalidScene))
        self.assertEqual(list(served_doors(ALONE)), [()])
        self.assertEqual(list(served_doors(STILL)), subsets(STILL.columns))


class Together(Case):

    def test_beside_books(self):
        for scene in (*SCENES, *some_scenes(40, seed=92)):
            for doors in doors_of(scene):
                for tables in subsets(scene.changing):
                    expected = slow_together(scene, tables, doors)
                    self.assertIs(together(scene, tables, doors=doors), expected)
                    pairs = [pair for pair in strains(scene) if set(pair) <= set(tables)]
                    strained = [table for door in doors for table in strained_tables(scene, door) if table in tables]
                    self.assertEqual(expected, not pairs and not strained)

    def test_fewer_tables_or_doors_go_together_too(self):
        for scene in some_scenes(40, seed=93):
            doors = doors_of(scene)[3]
            for tables in greatest_together(scene, doors=doors):
                for fewer in subsets(tables):
                    self.assertIs(together(scene, fewer, doors=doors), True)
                    self.assertIs(together(scene, fewer, doors=doors[:1]), True)
                    self.assertIs(together(scene, fewer), True)

    def test_doors_in_any_order_and_repeated(self):
        doors = (("part",), (), ("part",))
        for told in (doors, doors[::-1], doors[:2], doors * 2):
            self.assertIs(together(SHOP, ("order", "stock"), doors=told), True)
            self.assertIs(together(SHOP, ("buyer",), doors=told), False)
            self.same(greatest_together(SHOP, doors=told), (("order", "stock"),))
            self.same(least_still(SHOP, doors=told), (("buyer",),))

    def test_errors(self):
        wrong = [value for value in EVERY if not (type(value) is tuple and all(type(name) is str for name in value)
                                                  and value in subsets(SHOP.changing))]
        check_errors(self, together, Argument(SHOP, NO_SCENES, InvalidScene),
                     Argument(("order", "stock"), wrong, InvalidOperation),
                     Argument((("who",),), no_doors(SHOP), InvalidRole, "doors"))
        for tables in (("place",), ("order", "place"), ("order", "place", "stock"), ("stock", "order"), ("order", "order")):
            self.raises(InvalidOperation, together, GOODS, tables)
            self.raises(InvalidOperation, together, GOODS, tables, doors=(("zz",),))
        self.raises(InvalidRole, together, GOODS, (), doors=(("zz",),))
        self.assertIs(together(GOODS, ()), True)
        self.assertIs(together(STILL, (), doors=tuple(subsets(STILL.columns))), True)


class Greatest(Case):

    def test_beside_all_sets(self):
        for scene in (*SCENES, *some_scenes(80, seed=94)):
            for doors in doors_of(scene):
                good = [tables for tables in subsets(scene.changing) if slow_together(scene, tables, doors)]
                most = tuple(tables for tables in good if not any(set(tables) < set(more) for more in good))
                self.same(greatest_together(scene, doors=doors), most)
                still = [tuple(sorted(set(scene.changing) - set(tables))) for tables in good]
                least = tuple(sorted(tables for tables in still if not any(set(less) < set(tables) for less in still)))
                self.same(least_still(scene, doors=doors), least)
                rest = {tuple(sorted(set(scene.changing) - set(tables))) for tables in most}
                self.assertEqual(rest, set(least))

    def test_edges(self):
        self.same((greatest_together(STILL), least_still(STILL)), (((),), ((),)))
        self.same((greatest_together(STILL, doors=(("who",),)), least_still(STILL, doors=(("who",),))), (((),), ((),)))
        self.same((greatest_together(GOODS), least_still(GOODS)), ((("order", "stock"),), ((),)))
        self.same((greatest_together(GOODS, doors=(("who",),)), least_still(GOODS, doors=(("who",),))),
                  ((("order",),), (("stock",),)))
        self.same((greatest_together(ALONE), least_still(ALONE)), ((ALONE.tables,), ((),)))
        every = tuple(subsets(SHOP.columns))
        self.same(greatest_together(SHOP, doors=every), (("order",),))
        self.same(least_still(SHOP, doors=every), (("buyer", "stock"),))
        lone = Scene(changing={"a": ("x",), "b": ("x", "y")})
        self.same(greatest_together(lone, doors=(("x",), ("y",))), (("b",),))
        both = Scene(changing={"a": ("x",)}, fixed={"s": ("x", "y"), "t": ("y", "z")})
        self.same((greatest_together(both, doors=(("z",),)), least_still(both, doors=(("z",),))), (((),), (("a",),)))

    def test_errors(self):
        for function in (greatest_together, least_still):
            check_errors(self, function, Argument(SHOP, NO_SCENES, InvalidScene),
                         Argument((("who",),), no_doors(SHOP), InvalidRole, "doors"))


class Phases(Case):

    def test_beside_all_phases(self):
        for scene in (*SCENES, *some_scenes(80, seed=95)):
            good = slow_phases(scene)
            fewest = min(len(phases) for phases in good)
            self.same(fewest_phases(scene), min(phases for phases in good if len(phases) == fewest))
            for phases in partitions(scene.changing):
                told = tuple(sorted(phases))
                self.assertIs(is_phases(scene, told), told in good)
                self.assertIs(is_phases(scene, told[::-1]), told in good)

    def test_many_phases(self):
        self.same(fewest_phases(STAR), (("a",), ("b",), ("c", "hub")))
        self.same(fewest_phases(RING), tuple((table,) for table in RING.tables))
        self.same(fewest_phases(ALONE), (ALONE.tables,))
        for order in permutations(fewest_phases(RING)):
            self.assertIs(is_phases(RING, order), True)

    def test_no_table_changes(self):
        self.same(fewest_phases(STILL), ())
        self.assertIs(is_phases(STILL, ()), True)
        for value in [*EVERY, ((),), (("order",),)]:
            if value != ():
                self.assertIs(is_phases(STILL, value), False)

    def test_what_are_none(self):
        for value in EVERY:
            self.assertIs(is_phases(SHOP, value), False)
            self.assertIs(is_phases(SHOP, (("buyer",), ("order",), ("stock",), value)), False)
            self.assertIs(is_phases(GOODS, (("order", "stock"), value)), False)
        for value in ((("buyer",), ("order",)), (("buyer",), ("order", "stock"), ("stock",)), (("buyer",), ("order",), ("stock",), ()),
                      (("buyer",), ("stock", "order")), [("buyer",), ("order", "stock")], (["buyer"], ("order", "stock")),
                      (("buyer", "stock"), ("order",)), (("buyer", "order", "stock"),), (("buyer",), "order", ("stock",)),
                      (("buyer",), ("buyer",), ("order",), ("stock",)), ("buyer", "order", "stock"), ()):
            self.assertIs(is_phases(SHOP, value), False, value)
        self.assertIs(is_phases(GOODS, (("order", "place", "stock"),)), False)
        self.assertIs(is_phases(GOODS, (("stock",), ("order",))), True)

    def test_errors(self):
        check_errors(self, fewest_phases, Argument(SHOP, NO_SCENES, InvalidScene))
        check_errors(self, is_phases, Argument(SHOP, NO_SCENES, InvalidScene), Argument((), [], InvalidScene))

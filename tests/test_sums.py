"""The way in which sums are found: its order must not show in what is returned, nor cost what the document bars."""

from random import Random

from fewtouched.base.bases import Base
from fewtouched.base.matches import answers, matches, total_of
from fewtouched.base.scenes import Scene
from fewtouched.base.sums import agreeing, hanging_together, parts_of, parts_with, sums_up_to, total
from fewtouched.errors import TooMany
from tests.oracle import slow_entries, slow_matches, some_base, some_scenes, subsets
from tests.values import Case, DAY, SHOP


class Groups(Case):

    def test_hanging_together(self):
        for columns, groups in (
                ([], []), ([()], [[0]]), ([(), ()], [[0], [1]]), ([("a",), ("a",)], [[0, 1]]),
                ([("a",), ("b",)], [[0], [1]]), ([("a", "b"), ("c",), ("b", "c")], [[0, 1, 2]]),
                ([("a",), ("b",), (), ("b", "a"), ("c",)], [[0, 1, 3], [2], [4]]),
                ([("a", "b"), ("b", "c"), ("a", "d")], [[0, 1, 2]]),
                ([("a", "b"), ("c", "d"), ("e",), ("b", "c"), ("a", "e")], [[0, 1, 2, 3, 4]]),
                ([("c",), ("b",), ("b",), ("c",)], [[0, 3], [1, 2]])):
            self.assertEqual(hanging_together(columns), groups)
            self.assertEqual(hanging_together([list(some) for some in columns]), groups)


class Sums(Case):

    def test_totals_and_sums(self):
        parts = parts_of(DAY, SHOP.tables)
        self.same(total(parts), 2)
        self.same(total(agreeing(parts, {"who": 1})), 2)
        self.same(total(agreeing(parts, {"who": 2, "part": 10})), 0)
        self.same(total(parts_with(DAY, SHOP.tables, "stock", (20,))), 2)
        self.told(sums_up_to(parts, ("who",), 1), {(1,): 2})
        self.told(sums_up_to(parts, (), 1), {(): 2})
        self.raises_with(TooMany, "limit", 2, sums_up_to, parts_of(DAY, ("order",)), ("part", "who"), 2)
        self.raises_with(TooMany, "limit", 0, sums_up_to, parts, (), 0)

    def test_just_as_many_as_the_limit(self):
        chance = Random(12)
        for scene in some_scenes(60, seed=12):
            base = some_base(scene, chance)
            for door in subsets(scene.columns)[:20]:
                sums = slow_entries(base, scene.tables, door)
                self.told(sums_up_to(parts_of(base, scene.tables), door, len(sums)), sums)
                if sums:
                    self.raises_with(TooMany, "limit", len(sums) - 1, sums_up_to, parts_of(base, scene.tables), door,
                                     len(sums) - 1)


class Order(Case):

    def test_a_column_that_is_reached_by_way_of_others(self):
        scene = Scene(changing={"t": ("a", "b"), "v": ("b", "c", "d"), "w": ("a", "c"), "x": ("a", "d")})
        flat = ((1, 0), (2, 0), (3, 0))
        base = Base(scene, t=((1, 2), (2, 1), (3, 0)), v=((0, 0, 0), (1, 0, 0), (2, 0, 0)), w=flat, x=flat)
        self.assertEqual(list(matches(base, scene.tables)), [((1, 2, 0, 0), 1), ((2, 1, 0, 0), 1), ((3, 0, 0, 0), 1)])
        for door in subsets(scene.columns):
            self.told(answers(base, door), slow_entries(base, scene.tables, door))

    def test_groups_that_are_larger_for_some_integers(self):
        scene = Scene(changing={"t": ("a", "b"), "u": ("a", "c"), "v": ("a", "d")})
        base = Base(scene, t=((0, 1), (0, 2), (0, 3), (1, 1)), u=((0, 1), (1, 1), (1, 2), (1, 3)),
                    v=((0, 1), (0, 2), (1, 1), (1, 2)))
        for door in subsets(scene.columns):
            self.told(answers(base, door), slow_entries(base, scene.tables, door))

    def test_larger_scenes(self):
        chance = Random(13)
        for scene in some_scenes(150, most=4, seed=13):
            base = some_base(scene, chance, most=5, integers=2)
            self.assertEqual(list(matches(base, scene.tables)), list(slow_matches(base, scene.tables).items()))
            for door in chance.sample(subsets(scene.columns), min(4, 2 ** len(scene.columns))):
                self.told(answers(base, door), slow_entries(base, scene.tables, door))


class Work(Case):
    """What takes no time in the right order, and more than there is in a wrong one."""

    def test_columns_of_a_single_table_come_first(self):
        scene = Scene(changing={"t" + name: (name, "aa") for name in "abcde"})
        rows = {name: tuple((at, 0) if name < "aa" else (0, at) for at in range(80)) for name in "abcde"}
        base = Base(scene, **{"t" + name: rows[name] for name in "abcde"})
        self.same(total_of(base), 80 ** 5)
        self.told(answers(base, ("aa",)), {(0,): 80 ** 5})
        for door in (("a", "aa"), ("b",), ("e",), ("aa", "d")):
            self.assertEqual(len(answers(base, door)), 80)

    def test_a_table_that_holds_three_others_together(self):
        scene = Scene(changing={"t": ("a", "b"), "u": ("a", "c"), "v": ("a", "d"), "w": ("b", "c", "d")})
        rows = tuple((0, at) for at in range(100))
        base = Base(scene, t=rows, u=rows, v=rows, w=tuple((at, at, at) for at in range(100)))
        self.same(total_of(base), 100)
        self.assertEqual(len(answers(base, ("b", "d"))), 100)

    def test_three_tables_around_two_columns(self):
        scene = Scene(changing={"t": ("b", "d", "e", "f"), "u": ("d", "e", "f"), "v": ("a", "c", "d")})
        base = Base(scene, t=tuple((at, 0, at, at % 7) for at in range(90)), v=tuple((at, at, 0) for at in range(100)),
                    u=tuple((0, at, at % 7) for at in range(90)))
        self.assertEqual(len(answers(base, scene.columns)), 9000)
        self.assertEqual(len(answers(base, ("a", "b", "c", "e"))), 9000)

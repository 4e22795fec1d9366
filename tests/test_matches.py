"""Stage 4: matches, totals and answers."""

from random import Random

from fewtouched.base import matches as module
from fewtouched.base.bases import Base
from fewtouched.base.matches import answer, answers, difference, matches, total_of
from fewtouched.base.scenes import Scene
from fewtouched.errors import InvalidBase, InvalidOperation, InvalidRole, TooMany, UnknownName
from tests.arguments import Argument, check_errors
from tests.oracle import LETTERS, columns_of, slow_entries, slow_matches, some_base, some_scenes, subsets
from tests.values import (Case, DAY, GOODS, LONG, NO_BASES, SHELVES, SHOP, no_columns, no_integers, no_table, no_tables)


def apart(many=6, rows=66):
    """Tables with nothing in common: rows ** many matches, and no two of them have anything to do with each other."""
    scene = Scene(changing={name: (name,) for name in LETTERS[:many]})
    return Base(scene, **{name: tuple((at,) for at in range(rows)) for name in LETTERS[:many]})


def around(rows=80, hub="z", spread=1):
    """Five tables around one column, which takes so many integers."""
    scene = Scene(changing={"t" + name: (name, hub) for name in LETTERS[:5]})
    return Base(scene, **{"t" + name: tuple((at, at % spread) if name < hub else (at % spread, at)
                                            for at in range(rows)) for name in LETTERS[:5]})


def ring(rows=66):
    """Six tables in a ring: each has a column in common with the next one."""
    pairs = [tuple(sorted((LETTERS[at], LETTERS[(at + 1) % 6]))) for at in range(6)]
    scene = Scene(changing={"t" + "".join(pair): pair for pair in pairs})
    grid = tuple((at % 8, at // 8) for at in range(rows))
    return Base(scene, **{"t" + "".join(pair): grid for pair in pairs})


def all_pairs(rows=66):
    """Six tables, one for each two of four columns; one column has a single integer."""
    pairs = [(one, other) for one in "abcd" for other in "abcd" if one < other]
    scene = Scene(changing={one + other: (one, other) for one, other in pairs})
    told = {one + other: tuple((0, at) if one == "a" else (at % 8, at // 8) for at in range(rows))
            for one, other in pairs}
    return Base(scene, **told)


class Document(Case):

    def test_constant(self):
        self.same(module.MAX_ANSWERS, 10000)

    def test_examples(self):
        self.assertEqual(
            [total_of(DAY), answers(DAY, ("who",)), answer(DAY, ("part", "who"), (10, 1)),
             difference(DAY, "stock", (20,))],
            [2, {(1,): 2}, 2, 2])
        self.assertEqual(list(matches(DAY, ("buyer", "order"))), [((10, 1), 2), ((20, 1), 1), ((20, 2), 1)])
        self.assertEqual(
            [next(matches(DAY, ("buyer", "stock"))), answers(DAY, ()), total_of(DAY.with_rows("buyer", ()))],
            [((10, 1), 1), {(): 2}, 0])


class Matches(Case):

    def test_one_table(self):
        self.same(tuple(matches(DAY, ("order",))), (((10, 1), 2), ((20, 1), 1), ((20, 2), 1)))
        self.same(tuple(matches(DAY, ("stock",))), (((10,), 1),))
        self.same(tuple(matches(SHELVES, ("place",))), (((10, 7), 1), ((20, 7), 1)))
        bare = Scene(changing={"t": (), "u": ()})
        self.same(tuple(matches(Base(bare, t=((), ()), u=((),) * 3), ("t",))), (((), 2),))
        self.same(tuple(matches(Base(bare, t=((), ()), u=((),) * 3), ("t", "u"))), (((), 6),))
        self.same(tuple(matches(Base(bare, t=((), ())), ("t", "u"))), ())
        self.same(tuple(matches(Base(bare), ("t",))), ())

    def test_all_tables(self):
        self.same(tuple(matches(DAY, SHOP.tables)), (((10, 1), 2),))
        self.same(tuple(matches(SHELVES, GOODS.tables)), (((10, 7, 1), 1),))

    def test_integers_are_in_the_order_of_the_columns(self):
        scene = Scene(changing={"t": ("b", "d"), "u": ("a", "c", "d")})
        base = Base(scene, t=((1, 2), (5, 2)), u=((3, 4, 2), (0, 9, 2), (0, 0, 7)))
        self.same(tuple(matches(base, ("t", "u"))),
                  (((0, 1, 9, 2), 1), ((0, 5, 9, 2), 1), ((3, 1, 4, 2), 1), ((3, 5, 4, 2), 1)))

    def test_nothing_in_common(self):
        self.same(tuple(matches(DAY, ("buyer", "stock"))), (((10, 1), 1), ((10, 2), 1)))
        self.assertEqual(len(list(matches(apart(3, 5), ("a", "b", "c")))), 125)
        self.assertEqual(list(matches(apart(2, 3), ("a", "b"))), [((one, other), 1) for one in range(3)
                                                                  for other in range(3)])

    def test_times_multiply(self):
        base = Base(SHOP, buyer=((1,),) * 2, order=((10, 1),) * 3, stock=((10,),) * 5)
        self.same(tuple(matches(base, SHOP.tables)), (((10, 1), 30),))
        self.same(tuple(matches(base, ("buyer", "order"))), (((10, 1), 6),))
        many = DAY.put("buyer", (1,), many=LONG).put("order", (10, 1), many=LONG).put("stock", (10,), many=LONG)
        self.same(tuple(matches(many, SHOP.tables)), (((10, 1), (LONG + 1) * (LONG + 2) * (LONG + 1)),))

    def test_no_rows(self):
        for table in SHOP.tables:
            empty = DAY.with_rows(table, ())
            for tables in subsets(SHOP.tables):
                if tables:
                    self.assertEqual(list(matches(empty, tables)) == [], table in tables)

    def test_first_ones_come_at_once(self):
        self.same(next(matches(apart(), tuple(LETTERS))), ((0,) * 6, 1))
        for base in (around(), around(hub="aa"), ring(), all_pairs(), apart(3, 130)):
            tables = base.scene.tables
            told = matches(base, tables)
            first = [next(told) for _ in range(100)]
            self.assertEqual(first, sorted(first))
            self.assertEqual(len(set(first)), 100)

    def test_later_ones(self):
        base = apart(2, 200)
        self.assertEqual([integers for integers, _ in matches(base, ("a", "b"))],
                         [(one, other) for one in range(200) for other in range(200)])

    def test_beside_the_slow_way(self):
        chance = Random(4)
        for scene in some_scenes(120, seed=4):
            base = some_base(scene, chance)
            for tables in subsets(scene.tables)[1:12]:
                self.assertEqual(list(matches(base, tables)), list(slow_matches(base, tables).items()))

    def test_generators_on_one_base_do_not_touch_each_other(self):
        one, other = matches(DAY, ("order",)), matches(DAY, ("order",))
        self.assertEqual([next(one), next(one), next(other), next(one), next(other)],
                         [((10, 1), 2), ((20, 1), 1), ((10, 1), 2), ((20, 2), 1), ((20, 1), 1)])
        self.assertRaises(StopIteration, next, one)

    def test_errors(self):
        check_errors(self, matches, Argument(DAY, NO_BASES, InvalidBase),
                     Argument(("order",), no_tables(SHOP), InvalidOperation))


class Totals(Case):

    def test_little_ones(self):
        self.same(total_of(Base(SHOP)), 0)
        self.same(total_of(SHELVES), 1)
        self.same(total_of(Base(Scene(changing={"t": ()}), t=((),) * 4)), 4)
        self.same(total_of(Base(Scene(changing={"t": ("a",)}), t=((1,), (1,), (-2,)))), 3)
        self.same(total_of(DAY.put("buyer", (1,), many=LONG)), 2 * (LONG + 1))

    def test_far_more_matches_than_can_be_made(self):
        self.same(total_of(apart()), 66 ** 6)
        self.same(total_of(around()), 80 ** 5)
        self.same(total_of(around(spread=8)), 8 * 10 ** 5)
        self.same(total_of(around(hub="aa", spread=80)), 80)
        grid = {(at % 8, at // 8) for at in range(66)}
        self.same(total_of(all_pairs()), sum((b, c) in grid and (b, d) in grid and (c, d) in grid
                                             for b in range(66) for c in range(66) for d in range(66)))

    def test_ring(self):
        # Counted by going round: the last table leads from the first column to the last one.
        steps = [(at % 8, at // 8) for at in range(66)]
        total = 0
        for start in range(9):
            ways = {start: 1}
            for _ in range(5):
                further = {}
                for one, other in steps:
                    further[other] = further.get(other, 0) + ways.get(one, 0)
                ways = further
            total += sum(many for end, many in ways.items() if (start, end) in steps)
        self.same(total_of(ring()), total)

    def test_beside_the_slow_way(self):
        chance = Random(5)
        for scene in some_scenes(200, seed=5):
            base = some_base(scene, chance)
            self.same(total_of(base), sum(slow_matches(base, scene.tables).values()))

    def test_errors(self):
        check_errors(self, total_of, Argument(DAY, NO_BASES, InvalidBase))


class Answers(Case):

    def test_integers_that_are_there_and_such_that_are_not(self):
        self.same(answer(DAY, ("who",), (1,)), 2)
        self.same(answer(DAY, ("who",), (2,)), 0)
        self.same(answer(DAY, ("who",), (LONG,)), 0)
        self.same(answer(DAY, ("part",), (10,)), 2)
        self.same(answer(DAY, ("part",), (20,)), 0)
        self.same(answer(DAY, (), ()), 2)
        self.same(answer(DAY, ("part", "who"), (10, 2)), 0)
        self.same(answer(SHELVES, ("part", "shelf", "who"), (10, 7, 1)), 1)
        self.same(answer(SHELVES, ("part", "shelf", "who"), (10, 8, 1)), 0)

    def test_doors(self):
        self.told(answers(DAY, ()), {(): 2})
        self.told(answers(DAY, ("part", "who")), {(10, 1): 2})
        self.told(answers(DAY.put("stock", (20,)), ("who",)), {(1,): 3, (2,): 1})
        self.told(answers(DAY.put("stock", (20,)), ("part",)), {(10,): 2, (20,): 2})
        self.told(answers(DAY.with_rows("stock", ()), ("part",)), {})
        self.told(answers(DAY.with_rows("stock", ()), ()), {})

    def test_ascending(self):
        base = Base(Scene(changing={"t": ("a", "b"), "u": ("b", "c")}), t=((3, 1), (-3, 1), (2, 0)),
                    u=((1, 5), (1, -5), (0, 0)))
        self.told(answers(base, ("a", "c")), {(-3, -5): 1, (-3, 5): 1, (2, 0): 1, (3, -5): 1, (3, 5): 1})
        self.told(answers(base, ("a",)), {(-3,): 2, (2,): 1, (3,): 2})

    def test_add_up_to_the_total(self):
        chance = Random(6)
        for scene in some_scenes(60, seed=6):
            base = some_base(scene, chance)
            for door in subsets(scene.columns):
                self.same(sum(answers(base, door).values()), total_of(base))

    def test_beside_the_slow_way(self):
        chance = Random(7)
        for scene in some_scenes(60, seed=7):
            base = some_base(scene, chance)
            for door in subsets(scene.columns):
                told = slow_entries(base, scene.tables, door)
                self.told(answers(base, door), told)
                for integers in list(told)[:3] + [(9,) * len(door), (0,) * len(door)]:
                    self.same(answer(base, door, integers), told.get(integers, 0))

    def test_ten_thousand(self):
        base = apart(2, 100)
        told = answers(base, ("a", "b"))
        self.assertEqual(list(told), [(one, other) for one in range(100) for other in range(100)])
        self.assertEqual(set(told.values()), {1})
        for more in (base.put("a", (100,)), base.put("b", (-1,)), apart(), apart(3, 130)):
            self.raises_with(TooMany, "limit", 10000, answers, more, more.scene.columns)
            self.raises_with(TooMany, "limit", 10000, answers, more.put("a", (7,), many=5), more.scene.columns)
            self.assertEqual(len(answers(more, ("a",))), len(more.rows("a")))
        self.assertEqual(len(answers(apart(), ("b", "e"))), 66 ** 2)
        self.raises_with(TooMany, "limit", 10000, answers, apart(), ("a", "c", "e"))

    def test_one_more_than_ten_thousand(self):
        scene = Scene(changing={"t": ("a", "c"), "u": ("b", "c")})
        rows = [(at, 0) for at in range(100)]
        base = Base(scene, t=tuple(rows), u=tuple(rows))
        self.assertEqual(len(answers(base, ("a", "b"))), 10000)
        more = base.put("t", (100, 1)).put("u", (100, 1))
        self.raises_with(TooMany, "limit", 10000, answers, more, ("a", "b"))
        self.raises_with(TooMany, "limit", 10000, answers, more, ("a", "b", "c"))
        self.assertEqual(len(answers(more.take("u", (0, 0)).take("t", (0, 0)), ("a", "b"))), 9802)

    def test_too_many_in_one_part_and_none_in_another(self):
        base = apart()
        for table in LETTERS:
            empty = base.with_rows(table, ())
            self.told(answers(empty, tuple(LETTERS)), {})
            self.same(total_of(empty), 0)
            self.assertEqual(list(matches(empty, tuple(LETTERS))), [])

    def test_far_more_matches_than_can_be_made(self):
        base = around()
        self.told(answers(base, ("z",)), {(0,): 80 ** 5})
        self.told(answers(base, ("a",)), {(at,): 80 ** 4 for at in range(80)})
        self.same(answer(base, ("a", "b"), (5, 6)), 80 ** 3)
        self.same(answer(apart(), ("a", "f"), (5, 65)), 66 ** 4)
        self.raises_with(TooMany, "limit", 10000, answers, base, ("a", "b", "c", "d", "e"))
        self.raises_with(TooMany, "limit", 10000, answers, base, ("b", "d", "e", "z"))
        self.assertEqual(len(answers(around(spread=80), tuple("abcdez"))), 80)

    def test_a_part_that_is_hard_to_sum_is_summed_once(self):
        scene = Scene(changing={"a": ("a",), "b": ("b",), "t": ("c", "d", "e"), "u": ("c", "e", "f"), "v": ("d", "f")})
        rows = tuple((at,) for at in range(100))
        base = Base(scene, a=rows, b=rows, t=tuple((0, at, 0) for at in range(66)),
                    u=tuple((0, 0, at) for at in range(66)), v=tuple((at, at) for at in range(66)))
        self.assertEqual(set(answers(base, ("a", "b", "c", "e")).values()), {66})

    def test_errors(self):
        check_errors(self, answer, Argument(DAY, NO_BASES, InvalidBase),
                     Argument(("who",), no_columns(SHOP), InvalidRole),
                     Argument((1,), no_integers(1), InvalidOperation))
        check_errors(self, answers, Argument(DAY, NO_BASES, InvalidBase),
                     Argument(("who",), no_columns(SHOP), InvalidRole))
        self.raises(InvalidRole, answers, DAY, "buyer")
        self.raises(InvalidRole, answer, DAY, "buyer", (1,))
        for value in no_integers(0):
            self.raises(InvalidOperation, answer, DAY, (), value)


class Differences(Case):

    def test_rows_that_are_there_and_such_that_are_not(self):
        for table, row, many in (("stock", (10,), 2), ("stock", (20,), 2), ("stock", (30,), 0), ("order", (10, 1), 1),
                                 ("order", (10, 2), 1), ("order", (20, 1), 0), ("buyer", (1,), 2), ("buyer", (2,), 0),
                                 ("buyer", (3,), 0)):
            self.same(difference(DAY, table, row), many)
        self.same(difference(SHELVES, "order", (20, 5)), 1)
        self.same(difference(SHELVES, "order", (30, 5)), 0)
        self.same(difference(SHELVES, "stock", (7,)), 1)

    def test_does_not_hang_on_the_rows_of_its_own_table(self):
        self.same(difference(DAY.with_rows("stock", ()), "stock", (20,)), 2)
        self.same(difference(DAY.put("stock", (20,), many=LONG), "stock", (20,)), 2)
        self.same(difference(Base(SHOP), "order", (1, 1)), 0)

    def test_how_much_the_total_rises_and_falls(self):
        chance = Random(8)
        for scene in some_scenes(150, seed=8):
            base = some_base(scene, chance)
            for table in scene.changing:
                for row in [*list(base.rows(table))[:2], (0,) * len(scene.columns_of(table)),
                            (1,) * len(scene.columns_of(table)), (7,) * len(scene.columns_of(table))]:
                    rise = difference(base, table, row)
                    self.same(total_of(base.put(table, row)), total_of(base) + rise)
                    self.same(total_of(base.put(table, row, many=5)), total_of(base) + 5 * rise)
                    if base.times(table, row) > 0:
                        self.same(total_of(base.take(table, row)), total_of(base) - rise)

    def test_far_more_matches_than_can_be_made(self):
        self.same(difference(apart(), "c", (99,)), 66 ** 5)
        self.same(difference(around(), "ta", (99, 0)), 80 ** 4)
        self.same(difference(around(), "ta", (99, 1)), 0)

    def test_a_base_that_is_full(self):
        base = Base(Scene(changing={"t": ("a",)}), t=tuple((at,) for at in range(400)))
        self.same(difference(base, "t", (400,)), 1)

    def test_errors(self):
        check_errors(self, difference, Argument(DAY, NO_BASES, InvalidBase),
                     Argument("order", no_table(SHOP), UnknownName), Argument((1, 2), no_integers(2), InvalidBase))
        self.raises(InvalidOperation, difference, SHELVES, "place", (10, 7))
        self.raises(InvalidOperation, difference, DAY.on(SHOP.held("stock")), "stock", (10,))
        self.raises(InvalidBase, difference, SHELVES, "place", (10,))
        self.raises_with(UnknownName, "name", "who", difference, SHELVES, "who", (10,))


class Unchanged(Case):

    def test_bases_stay_as_they_are(self):
        before = {table: list(DAY.rows(table).items()) for table in SHOP.tables}
        for _ in range(2):
            total_of(DAY)
            answers(DAY, ("who",))[(5,)] = 7
            list(matches(DAY, SHOP.tables))
            difference(DAY, "stock", (20,))
            self.told(answers(DAY, ("who",)), {(1,): 2})
        self.assertEqual({table: list(DAY.rows(table).items()) for table in SHOP.tables}, before)
        self.assertEqual(columns_of(SHOP, SHOP.tables), SHOP.columns)

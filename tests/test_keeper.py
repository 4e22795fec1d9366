"""Stage 11: keepers."""

from inspect import isgenerator
from random import Random

from fewtouched.base.bases import Base
from fewtouched.base.matches import answer, total_of
from fewtouched.base.scenes import Scene
from fewtouched.books.books import book, costs, first_strained, is_quiet_book
from fewtouched.books.keeper import Keeper
from fewtouched.errors import (InvalidBase, InvalidNumber, InvalidOperation, InvalidRole, InvalidView, NotThere,
                               Strained, TooMany, UnknownName)
from fewtouched.views.views import entries
from tests.arguments import Argument, check_errors
from tests.oracle import slow_entries, slow_finds, some_base, some_scenes, subsets
from tests.slow import Plain, quiet_doors, slow_altered, slow_looked, slow_total, some_changes
from tests.values import (CHAIN, Case, DAY, EVERY, FAR, GOODS, LONG, NO_BASES, NO_NUMBERS, SHELVES, SHOP, is_subset,
                          no_columns, no_doors, no_integers, no_table, no_view)

STALL = Base(GOODS, order=((10, 1), (10, 1), (20, 2)), place=((10, 7), (20, 8)), stock=((7,),))
BY_SHELF = (("order", "place"), ("shelf",))

# The two fixed tables are one piece; its view has an entry for each pair of a row of the one and a row of the other.
WIDE = Scene(changing={"m": ("x", "y")}, fixed={"f": ("x", "z"), "g": ("y", "z")})


def wide(many, others):
    return Base(WIDE, f=tuple((at, 0) for at in range(many)), g=tuple((at, 0) for at in range(others)))


class Document(Case):

    def test_examples(self):
        keeper = Keeper(STALL)
        self.assertEqual(
            [keeper.total, len(keeper.views), keeper.put("stock", (8,)), keeper.last, keeper.put("order", (20, 1)),
             keeper.last, keeper.put("order", (30, 1)), keeper.last],
            [2, 4, 3, (1, 2), 4, (3, 2), 4, (0, 0)])
        self.assertEqual(
            [keeper.entries(BY_SHELF), len(keeper), keeper.admit(("shelf",)), keeper.ask(("shelf",), (8,)), keeper.last],
            [{(7,): 2, (8,): 2}, 7, 1, 2, (2, 0)])


class Made(Case):

    def test_doors_in_any_order_and_repeated(self):
        doors = (("shelf",), (), ("part", "shelf", "who"), ("shelf",))
        for told in (doors, doors[::-1], doors * 3):
            for keeper in (Keeper(STALL, *told), Keeper.of(STALL, told)):
                self.same(keeper.doors, ((), ("part", "shelf", "who"), ("shelf",)))
                self.same(keeper.views, book(GOODS, doors))
                self.assertEqual(keeper, Keeper(STALL, *doors))
        for keeper in (Keeper(STALL), Keeper.of(STALL, ())):
            self.same((keeper.doors, keeper.views), ((), book(GOODS)))

    def test_properties(self):
        keeper = Keeper(STALL, ("shelf",))
        self.assertEqual(keeper.base, STALL)
        self.same((keeper.total, keeper.last, len(keeper)), (2, (0, 0), 6))
        self.assertEqual(str(keeper), "keeper of 4 views, 6 entries")
        self.assertEqual(str(Keeper(Base(GOODS))), "keeper of 4 views, 0 entries")
        for name in ("base", "doors", "views", "total", "last"):
            with self.assertRaises(AttributeError):
                setattr(keeper, name, 1)

    def test_no_table_changes(self):
        still = STALL.on(GOODS.held("order", "stock"))
        keeper = Keeper(still)
        self.same((keeper.total, keeper.views, len(keeper)), (2, ((GOODS.tables, ()),), 1))
        self.raises(InvalidOperation, keeper.put, "stock", (7,))
        self.raises(InvalidOperation, keeper.take, "order", (10, 1), many=0)
        every = tuple(subsets(GOODS.columns))
        self.same(keeper.admit(*every), 8)
        for door in every:
            for key, number in slow_entries(still, GOODS.tables, door).items():
                self.same(keeper.ask(door, key), number)

    def test_strained(self):
        for scene, doors in ((SHOP, ()), (GOODS, (("who",),)), (GOODS, ((), ("who",), ("part",))), (FAR, (("x",),)),
                             (SHOP.held("stock"), (("part",),)), (SHOP, (("part", "who"),))):
            told = first_strained(scene, doors)[2]
            self.raises_with(Strained, "bridge", told, Keeper, Base(scene), *doors)
            self.raises_with(Strained, "bridge", told, Keeper.of, Base(scene), doors)
        self.raises_with(Strained, "bridge", ("order",), Keeper, DAY)
        self.raises_with(Strained, "bridge", ("s", "u"), Keeper, Base(FAR))

    def test_strained_or_not(self):
        for scene in some_scenes(60, seed=70):
            for doors in ((), (scene.columns,), tuple(subsets(scene.columns)[:2])):
                if is_quiet_book(scene, doors):
                    self.same(Keeper(Base(scene), *doors).total, 0)
                else:
                    self.raises_with(Strained, "bridge", first_strained(scene, doors)[2], Keeper, Base(scene), *doors)

    def test_ten_thousand_entries(self):
        keeper = Keeper(wide(100, 100))
        self.same(len(keeper), 10000)
        self.same(keeper.put("m", (99, 5), many=3), 3)
        self.same(len(keeper), 10001)
        for base in (wide(101, 100), wide(137, 73), wide(200, 200)):
            self.raises_with(TooMany, "limit", 10000, Keeper, base)
            self.raises_with(TooMany, "limit", 10000, Keeper.of, base, ((),))
            self.raises_with(Strained, "bridge", first_strained(WIDE, (("x", "z"),))[2], Keeper, base, ("x", "z"))

    def test_errors(self):
        check_errors(self, Keeper.of, Argument(STALL, NO_BASES, InvalidBase),
                     Argument(((), ("shelf",)), no_doors(GOODS), InvalidRole))
        for value in NO_BASES:
            self.raises(InvalidBase, Keeper, value)
            self.raises(InvalidBase, Keeper, value, ("zz",), 5)
        for value in no_columns(GOODS):
            self.raises(InvalidRole, Keeper, STALL, value)
            self.raises(InvalidRole, Keeper, STALL, ("who",), value)
            self.raises(InvalidRole, Keeper, STALL, value, ("shelf",))
        self.raises(InvalidRole, Keeper, DAY, ("zz",))


class Changes(Case):

    def test_many_histories(self):
        chance, made = Random(71), 0
        for scene in [*some_scenes(150, tables=4, columns=5, seed=71), *some_scenes(40, seed=70)]:
            if scene.changing and is_quiet_book(scene):
                made += 1
                base = some_base(scene, chance, most=3)
                self.check_history(base, quiet_doors(scene, chance), some_changes(base, chance, 6), chance)
        self.assertGreater(made, 60)

    def check_history(self, base, doors, changes, chance):
        keeper, plain = Keeper(base, *doors), Plain(base)
        self.check_state(keeper, base)
        for table, row, many in changes:
            before = plain.base()
            plain.change(table, row, many)
            after = plain.base()
            total = keeper.put(table, row, many=many) if many >= 0 else keeper.take(table, row, many=-many)
            self.same(total, slow_total(after))
            looked = slow_looked(after, table, row, doors) if many else 0
            self.same(keeper.last, (looked, slow_altered(before, after, keeper.views)))
            self.assertLessEqual(keeper.last[1], costs(base.scene, doors)[table][1])
            self.check_state(keeper, after)
            for door in keeper.doors:
                self.check_answer(keeper, after, door, tuple(chance.randrange(3) for _ in door))

    def check_state(self, keeper, base):
        self.assertEqual(keeper.base, base)
        self.same(keeper.total, slow_total(base))
        for view in keeper.views:
            self.told(keeper.entries(view), slow_entries(base, *view))
        self.same(len(keeper), sum(len(keeper.entries(view)) for view in keeper.views))
        self.assertEqual(keeper, Keeper(base, *keeper.doors))

    def check_answer(self, keeper, base, door, integers):
        number = slow_entries(base, base.scene.tables, door).get(integers, 0)
        for ask in (keeper.ask, keeper):
            self.same(ask(door, integers), number)
            self.same(keeper.last, (slow_looked(base, door, integers, ()), 0))

    def test_a_row_finds_something_in_each_view_or_in_none(self):
        chance, rows = Random(72), 0
        for scene in some_scenes(200, seed=72):
            if is_quiet_book(scene):
                base = some_base(scene, chance)
                for table in scene.changing:
                    row = tuple(chance.randrange(3) for _ in scene.columns_of(table))
                    found = [bool(slow_finds(base, scene.columns_of(table), row, view[0])) for view in book(scene)
                             if table in view[0]]
                    self.assertIn(found, ([True] * len(found), [False] * len(found)))
                    rows += 1
        self.assertGreater(rows, 60)

    def test_many_tables_with_many_rows(self):
        # Each part has a shelf, each shelf a hall, so a change of one table finds all others.
        scene = Scene(changing={"order": ("part", "who"), "stock": ("shelf",), "watch": ("hall",)},
                      fixed={"place": ("part", "shelf"), "room": ("hall", "shelf")},
                      keyed={"place": ("part",), "room": ("shelf",)})
        chance = Random(73)
        base = Base(scene, place=tuple((at, at % 7) for at in range(90)), room=tuple((at % 3, at) for at in range(7)),
                    order=tuple((chance.randrange(95), chance.randrange(40)) for _ in range(200)),
                    stock=tuple((at % 9,) for at in range(60)), watch=((0,), (0,), (2,)))
        keeper, plain = Keeper(base, ("part",), (), scene.columns), Plain(base)
        for table, row, many in some_changes(base, chance, 120, integers=9, most=40):
            plain.change(table, row, many)
            keeper.put(table, row, many=many) if many >= 0 else keeper.take(table, row, many=-many)
        self.same(keeper.total, total_of(plain.base()))
        self.assertGreater(keeper.total, 1000)
        for view in keeper.views:
            self.told(keeper.entries(view), entries(plain.base(), view))
        for part in range(5):
            self.same(keeper(("part",), (part,)), answer(plain.base(), ("part",), (part,)))

    def test_tables_that_share_all_columns_one_or_none(self):
        same = Scene(changing={"a": ("x", "y"), "b": ("x", "y"), "c": ("x", "y")})
        one = Scene(changing={"a": ("x",), "b": ("x",), "c": ("x",), "d": ("x",)})
        none = Scene(changing={"a": ("x",), "b": ("y",), "c": (), "d": ()})
        chance = Random(74)
        for scene in (same, one, none):
            for doors in ((), ((),), (scene.columns, ("x",)) if scene == none else (scene.columns,)):
                base = some_base(scene, chance)
                self.check_history(base, doors, some_changes(base, chance, 12, integers=2), chance)

    def test_integers_with_very_many_digits(self):
        scene = Scene(changing={name: () for name in "abcdef"})
        keeper = Keeper(Base(scene))
        for table in scene.tables:
            keeper.put(table, (), many=LONG)
        self.same(keeper.total, LONG ** 6)
        self.same(keeper.put("a", (), many=keeper.total), LONG ** 5 * (LONG + LONG ** 6))
        self.same(keeper.take("a", (), many=LONG ** 6 + LONG), 0)
        self.same(keeper.last, (5, 2))
        self.same(Keeper(Base(GOODS, order=((LONG, -LONG),), place=((LONG, -LONG),), stock=((-LONG,),))).total, 1)

    def test_nothing_is_altered_by_0(self):
        keeper = Keeper(Base(GOODS, place=((10, 7),)))
        self.same((keeper.put("order", (10, 1)), keeper.last), (0, (3, 1)))
        self.same((keeper.put("stock", (9,)), keeper.last), (0, (1, 1)))
        self.same((keeper.put("order", (30, 1)), keeper.last), (0, (0, 0)))
        self.same(keeper.base.rows("order"), {(10, 1): 1, (30, 1): 1})
        self.same((keeper.put("stock", (7,), many=0), keeper.last), (0, (0, 0)))
        self.same((keeper.take("stock", (7,), many=0), keeper.last), (0, (0, 0)))
        self.same((keeper.put("stock", (7,), many=5), keeper.last), (5, (1, 2)))

    def test_four_hundred_rows(self):
        scene = Scene(changing={"t": ("a",), "u": ("a",)})
        keeper = Keeper(Base(scene, t=tuple((at,) for at in range(399))))
        keeper.put("u", (5,))
        before, last = keeper.base, keeper.last
        self.raises_with(TooMany, "limit", 400, keeper.put, "u", (6,))
        self.assertEqual((keeper.base, keeper.last, keeper.total), (before, last, 1))
        self.same(keeper.put("u", (6,), many=0), 1)
        self.same(keeper.put("u", (5,), many=2), 3)
        self.same((keeper.take("t", (398,)), keeper.put("u", (6,))), (3, 4))

    def test_not_there(self):
        keeper = Keeper(STALL)
        keeper.put("stock", (8,))
        for table, row, many in (("order", (10, 1), 3), ("stock", (9,), 1), ("order", (20, 2), LONG)):
            before = keeper.twin()
            self.raises_with(NotThere, "row", row, keeper.take, table, row, many=many)
            self.assertEqual(keeper, before)
            self.same(keeper.last, (1, 2))
        self.same(keeper.take("order", (10, 1), many=2), 1)

    def test_errors(self):
        keeper = Keeper(STALL)
        for change in (keeper.put, keeper.take):
            check_errors(self, change, Argument("order", no_table(GOODS), UnknownName),
                         Argument((10, 1), no_integers(2), InvalidBase),
                         Argument(0, NO_NUMBERS, InvalidNumber, "many"))
            self.raises(InvalidOperation, change, "place", (10, 7))
            self.raises(InvalidOperation, change, "place", (99, 9), many=0)
            self.raises(InvalidBase, change, "place", (10,), many=0)
            self.raises_with(InvalidNumber, "value", -1, change, "place", (10, 7), many=-1)
        self.assertEqual(keeper.base, STALL)


class Last(Case):

    def test_what_does_not_return_does_not_count(self):
        keeper = Keeper(STALL, ("shelf",))
        keeper.ask(("shelf",), (7,))
        self.same(keeper.last, (2, 0))
        for call in (lambda: keeper.put("place", (1, 2)), lambda: keeper.take("stock", (9,)), lambda: keeper.put("zz", 5),
                     lambda: keeper.ask(("shelf",), ("a",)), lambda: keeper.ask(("who",), (1,)),
                     lambda: keeper.shut(("who",)), lambda: keeper.admit(("who",)), lambda: keeper.entries(5)):
            with self.assertRaises(Exception):
                call()
            self.same(keeper.last, (2, 0))
        keeper.entries(BY_SHELF)
        keeper.twin().put("stock", (7,), many=0)
        self.same((keeper.admit(()), keeper.last, keeper.shut(()), keeper.last), (2, (2, 0), 1, (2, 0)))
        self.same((keeper.put("stock", (7,)), keeper.last), (4, (1, 2)))

    def test_nothing_found(self):
        keeper = Keeper(STALL, ("part", "shelf"))
        self.same((keeper(("part", "shelf"), (10, 7)), keeper.last), (2, (3, 0)))
        self.same((keeper(("part", "shelf"), (10, 8)), keeper.last), (0, (0, 0)))


class Follow(Case):

    CHANGES = (("stock", (8,), 1), ("order", (20, 1), 1), ("order", (10, 1), -2), ("stock", (5,), 0), ("stock", (8,), -1))

    def test_totals(self):
        keeper = Keeper(STALL)
        self.assertEqual(list(keeper.follow(self.CHANGES)), [3, 4, 2, 2, 0])
        self.assertEqual(keeper, Keeper(Base(GOODS, order=((20, 1), (20, 2)), place=((10, 7), (20, 8)), stock=((7,),))))
        self.assertEqual(list(keeper.follow(())), [])

    def test_one_by_one(self):
        keeper = Keeper(STALL)
        totals = keeper.follow(self.CHANGES)
        self.assertTrue(isgenerator(totals))
        self.assertEqual(keeper.base, STALL)
        for total, last, times in ((3, (1, 2), 2), (4, (3, 2), 2), (2, (3, 2), 0), (2, (0, 0), 0)):
            self.same(next(totals), total)
            self.same(keeper.last, last)
            self.same(keeper.base.times("order", (10, 1)), times)
        keeper.put("stock", (8,), many=3)
        self.same(next(totals), 6)
        self.assertRaises(StopIteration, next, totals)

    def test_changes_ahead_of_an_error_stay(self):
        for change, error in ((("zz", (1,), 1), UnknownName), (("stock", [1], 1), InvalidBase),
                              (("stock", (1,), None), InvalidNumber), (("stock", (1,), True), InvalidNumber),
                              (("place", (1, 2), 0), InvalidOperation), (("place", (10, 7), -1), InvalidOperation),
                              (("stock", (8,), -2), NotThere), ((5, 5, 5), UnknownName),
                              (("stock", (1, 2), "a"), InvalidBase)):
            keeper = Keeper(STALL)
            totals = keeper.follow((("stock", (8,), 1), change, ("stock", (8,), 1)))
            self.same(next(totals), 3)
            self.raises(error, next, totals)
            self.same((keeper.total, keeper.last), (3, (1, 2)))
            self.assertEqual(list(totals), [])
        keeper = Keeper(STALL)
        self.raises_with(NotThere, "row", (8,), list, keeper.follow((("stock", (8,), -1),)))
        self.raises_with(InvalidNumber, "value", (1,), list, keeper.follow((("stock", (8,), (1,)),)))
        scene = Scene(changing={"t": ("a",)})
        keeper = Keeper(Base(scene))
        changes = tuple(("t", (at,), 1) for at in range(401))
        self.raises_with(TooMany, "limit", 400, list, keeper.follow(changes))
        self.same(keeper.total, 400)

    def test_what_are_no_changes(self):
        keeper = Keeper(STALL)
        for value in EVERY:
            good = type(value) is tuple and all(type(part) is tuple and len(part) == 3 for part in value)
            if not good:
                self.lazily(InvalidOperation, keeper.follow, value)
            if type(value) is not tuple or len(value) != 3:
                self.lazily(InvalidOperation, keeper.follow, (("stock", (8,), 1), value))
        self.lazily(InvalidOperation, keeper.follow, list(self.CHANGES))
        self.assertEqual(keeper.base, STALL)

    def test_histories(self):
        chance = Random(75)
        for scene in some_scenes(60, seed=75):
            if is_quiet_book(scene):
                base = some_base(scene, chance)
                keeper, other, changes = Keeper(base), Keeper(base), some_changes(base, chance, 10)
                for total, (table, row, many) in zip(keeper.follow(changes), changes):
                    self.same(total, other.take(table, row, many=-many) if many < 0 else other.put(table, row, many=many))
                    self.same(keeper.last, other.last)
                self.assertEqual(keeper, other)


class Asked(Case):

    def test_errors(self):
        keeper = Keeper(STALL, ("shelf",), ())
        closed = [value for value in EVERY if value not in (("shelf",), ())] + [("part",), ("who",), GOODS.columns]
        for ask in (keeper.ask, keeper.__call__):
            check_errors(self, ask, Argument(("shelf",), closed, InvalidRole),
                         Argument((7,), no_integers(1), InvalidOperation))
        for value in closed:
            self.raises(InvalidRole, keeper, value, (7,))
        self.raises(InvalidOperation, keeper, ("shelf",), (1, 2))
        self.raises(InvalidOperation, keeper, (), (1,))

    def test_entries(self):
        keeper = Keeper(STALL)
        told = keeper.entries(BY_SHELF)
        told[9,] = 5
        del told[7,]
        self.told(keeper.entries(BY_SHELF), {(7,): 2, (8,): 1})
        for value in [*EVERY, (("order",), ()), (("order", "place"), ()), [BY_SHELF], list(BY_SHELF),
                      (BY_SHELF[0], ["shelf"]), (("order", "place"), ("shelf",), ())]:
            if value not in keeper.views:
                self.raises(InvalidView, keeper.entries, value)
        for order in ((30, 3), (5, 1), (20, 7)):
            keeper.put("stock", order[:1])
        self.told(keeper.entries((("stock",), ("shelf",))), {(5,): 1, (7,): 1, (20,): 1, (30,): 1})


class Doors(Case):

    def test_admit_and_shut(self):
        keeper = Keeper(STALL)
        self.same((keeper.admit(("shelf",), (), ("shelf",)), keeper.doors), (2, ((), ("shelf",))))
        self.same((keeper.admit(), keeper.admit(()), keeper.admit(("part", "shelf", "who"))), (2, 2, 3))
        self.same((keeper.shut(("shelf",), ("shelf",)), keeper.doors), (2, ((), ("part", "shelf", "who"))))
        self.same((keeper.shut(), keeper.shut(GOODS.columns, ()), keeper.doors), (2, 0, ()))
        self.assertEqual(keeper, Keeper(STALL))

    def test_views_come_and_go(self):
        scene = Scene(changing={"m": ("a", "b")}, fixed={"f": ("a", "c")})
        keeper = Keeper(Base(scene, m=((1, 2), (1, 2)), f=((1, 5), (1, 6))))
        self.same(keeper.views, book(scene))
        keeper.admit(("a", "b", "c"))
        self.same(keeper.views, book(scene, (("a", "b", "c"),)))
        self.assertNotEqual(book(scene), keeper.views)
        keeper.put("m", (1, 3))
        self.same(keeper(("a", "b", "c"), (1, 3, 5)), 1)
        self.told(keeper.entries((("m",), ("a", "b"))), {(1, 2): 2, (1, 3): 1})
        keeper.shut(("a", "b", "c"))
        self.same((keeper.views, len(keeper)), (book(scene), 2))
        self.raises(InvalidView, keeper.entries, (("m",), ("a", "b")))
        self.raises(InvalidRole, keeper, ("a", "b", "c"), (1, 3, 5))

    def test_beside_new_keepers(self):
        chance = Random(76)
        for scene in some_scenes(80, seed=76):
            if is_quiet_book(scene):
                base = some_base(scene, chance)
                keeper, doors = Keeper(base, *quiet_doors(scene, chance)), quiet_doors(scene, chance, 4)
                for table, row, many in some_changes(base, chance, 3):
                    keeper.put(table, row, many=abs(many))
                keeper.admit(*doors)
                other = Keeper.of(keeper.base, keeper.doors)
                for view in keeper.views:
                    self.told(keeper.entries(view), other.entries(view))
                self.same((keeper.views, len(keeper)), (other.views, len(other)))
                keeper.shut(*doors)
                self.same(keeper.views, book(scene, keeper.doors))

    def test_strained(self):
        keeper = Keeper(STALL, ("shelf",))
        for doors in ((("who",),), (("part",), ("who",)), ((), ("who",), ("part", "who"))):
            told = first_strained(GOODS, (("shelf",), *doors))[2]
            self.raises_with(Strained, "bridge", told, keeper.admit, *doors)
            self.same(keeper.doors, (("shelf",),))
            self.assertEqual(keeper.views, book(GOODS, (("shelf",),)))

    def test_too_many_entries(self):
        # With all columns as a door each row of f and g is a view of its own, and with m held nothing else changes.
        scene = WIDE.held("m")
        base = Base(scene, f=tuple((at, 0) for at in range(150)), g=tuple((at, 0) for at in range(150)))
        keeper = Keeper(base)
        before = (len(keeper), keeper.views)
        self.raises_with(TooMany, "limit", 10000, keeper.admit, (), ("x", "y"))
        self.same((keeper.doors, len(keeper), keeper.views), ((), *before))
        self.same(keeper.admit(("x", "y", "z")), 1)

    def test_errors(self):
        keeper = Keeper(STALL, ("shelf",))
        for value in no_columns(GOODS):
            self.raises(InvalidRole, keeper.admit, value)
            self.raises(InvalidRole, keeper.admit, ("who",), value, ())
            self.raises(InvalidRole, keeper.shut, value)
            self.raises(InvalidRole, keeper.shut, ("who",), value, ())
        for doors in (((),), (("shelf",), ()), (("who",), ("shelf",))):
            self.raises(InvalidOperation, keeper.shut, *doors)
            self.same(keeper.doors, (("shelf",),))


class Values(Case):

    def test_equal(self):
        self.assertEqual(Keeper(STALL), Keeper(STALL))
        self.assertNotEqual(Keeper(STALL), Keeper(STALL, ()))
        self.assertNotEqual(Keeper(STALL), Keeper(STALL.put("stock", (7,))))
        self.assertNotEqual(Keeper(Base(GOODS)), Keeper(Base(GOODS.held("order"))))
        one, other = Keeper(STALL), Keeper(STALL, ())
        one.put("stock", (8,))
        one.take("stock", (8,))
        other.shut(())
        self.assertEqual(one, other)
        for value in EVERY:
            self.assertIs(one == value, False)
            self.assertIs(one != value, True)

    def test_twin(self):
        keeper = Keeper(STALL, ("shelf",))
        keeper.put("stock", (8,))
        twin = keeper.twin()
        self.assertEqual(twin, keeper)
        self.same((twin.last, twin.total, len(twin)), ((1, 2), 3, len(keeper)))
        twin.put("stock", (7,))
        twin.shut(("shelf",))
        keeper.put("order", (10, 1))
        self.same((keeper.total, twin.total, keeper.doors, twin.doors), (4, 5, (("shelf",),), ()))
        self.same((keeper.last, twin.last), ((3, 2), (1, 2)))

    def test_is_not_iterated_over(self):
        self.assertRaises(TypeError, iter, Keeper(STALL))
        self.assertRaises(TypeError, list, Keeper(STALL))

    def test_chain(self):
        keeper = Keeper(Base(CHAIN, r=((1,), (1,), (4,)), s=((1, 2), (4, 5)), t=((2, 3),)), ("c",), ("a",))
        self.same((keeper.total, keeper(("c",), (3,)), keeper(("a",), (4,)), keeper.put("r", (1,), many=4)), (2, 2, 0, 6))
        self.same(Keeper(SHELVES).total, 1)
        self.same(is_subset(keeper.doors[0], CHAIN.columns), True)
        self.assertNotIn(keeper.views[0], no_view(CHAIN))

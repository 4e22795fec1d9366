"""Stage 12: twins."""

from inspect import isgenerator
from itertools import product
from random import Random

from fewtouched.base.bases import Base
from fewtouched.base.matches import answer, difference
from fewtouched.base.scenes import Scene
from fewtouched.books.books import book
from fewtouched.books.pieces import number_by, piece_views
from fewtouched.errors import InvalidBase, InvalidOperation, InvalidRole, InvalidScene, UnknownName
from fewtouched.strain.bridges import bridge, bridges, is_served, strained_tables
from fewtouched.strain.twins import is_twins, number_of, telling_views, twins, twins_along
from fewtouched.views.quiet import is_quiet
from tests.arguments import Argument, check_errors
from tests.oracle import role_columns, roles_of, slow_number, some_base, some_scenes, subsets
from tests.slow import slow_is_twins, slow_telling
from tests.values import (CHAIN, Case, DAY, EVERY, FAR, GOODS, NO_BASES, NO_SCENES, SHELVES, SHOP, no_integers, no_role,
                          no_table)

FIRST = Base(SHOP, order=((1, 0), (2, 1)), stock=((1,),))
SECOND = Base(SHOP, order=((1, 0), (2, 1)), stock=((2,),))
TWINS = ((0,), FIRST, SECOND)

# Keyed tables near the role, near the strained table, between them, and beside all.
KEYED = Scene(changing={"a": ("x",), "b": ("y",), "side": ("w",)},
              fixed={"n": ("u", "x"), "m": ("u", "z"), "o": ("y", "z")}, keyed={"n": ("x",), "o": ("y", "z")})
MANY = (SHOP, GOODS, CHAIN, FAR, KEYED)


class Document(Case):

    def test_examples(self):
        self.assertEqual(
            [is_twins(SHOP, "buyer", TWINS), number_of(FIRST, "buyer", (0,)), number_of(SECOND, "buyer", (0,)),
             list(telling_views(SHOP, "buyer", TWINS))],
            [True, 1, 0, [(("order", "stock"), ("who",))]])
        self.assertEqual(
            [twins(GOODS, "order"), is_twins(SHOP, "stock", twins_along(SHOP, "stock", "buyer", ("order",))),
             number_of(DAY, ("part",), (10,)), number_of(DAY, "stock", (20,))],
            [None, True, 2, 2])


class Numbers(Case):

    def test_beside_other_ways(self):
        chance = Random(80)
        for scene in some_scenes(60, tables=4, seed=80):
            base = some_base(scene, chance)
            for role in roles_of(scene):
                integers = tuple(chance.randrange(3) for _ in role_columns(scene, role))
                number = number_of(base, role, integers)
                self.same(number, slow_number(base, role, integers, scene.tables))
                self.same(number, number_by(base, role, integers))
                self.same(number, (difference if isinstance(role, str) else answer)(base, role, integers))

    def test_errors(self):
        check_errors(self, number_of, Argument(DAY, NO_BASES, InvalidBase), Argument("order", no_role(SHOP), InvalidRole),
                     Argument((10, 1), no_integers(2), InvalidOperation))
        check_errors(self, number_of, Argument(SHELVES, NO_BASES, InvalidBase),
                     Argument(("shelf",), no_role(GOODS), InvalidRole), Argument((7,), no_integers(1), InvalidOperation))
        self.raises(InvalidRole, number_of, SHELVES, "place", (10, 7))


class Made(Case):

    def test_served_or_strained(self):
        for scene in (*MANY, *some_scenes(60, tables=5, seed=81)):
            for role in roles_of(scene):
                made = twins(scene, role)
                if is_served(scene, role):
                    self.assertIsNone(made)
                else:
                    self.assertIs(type(made), tuple)
                    self.assertTrue(is_twins(scene, role, made))

    def test_word_by_word(self):
        seen = 0
        for scene in (*MANY, *some_scenes(150, tables=4, columns=4, seed=82)):
            for role in roles_of(scene):
                for table in strained_tables(scene, role):
                    made = twins_along(scene, role, table, bridge(scene, role, table))
                    self.assertTrue(slow_is_twins(scene, role, made))
                    self.assertIs(is_twins(scene, role, made), True)
                    self.assertNotEqual(made[1].rows(table), made[2].rows(table))
                    seen += 1
        self.assertGreater(seen, 100)

    def test_along_each_bridge(self):
        for role, table in (("a", "b"), ("b", "a"), (("x",), "b"), (("u",), "b"), (("w",), "a")):
            told = list(bridges(KEYED, role, table))
            for path in told:
                made = twins_along(KEYED, role, table, path)
                self.assertTrue(is_twins(KEYED, role, made))
                self.assertNotEqual(made[1].rows(table), made[2].rows(table))
            self.assertEqual(bool(told), table in strained_tables(KEYED, role))

    def test_sizes(self):
        for scene in MANY:
            for role in roles_of(scene):
                made = twins(scene, role)
                if made:
                    for base in made[1:]:
                        self.assertTrue(all(many == 1 for table in scene for many in base.rows(table).values()))
                        self.assertLessEqual(max(len(base.rows(table)) for table in scene), 2)

    def test_errors(self):
        check_errors(self, twins, Argument(SHOP, NO_SCENES, InvalidScene), Argument("buyer", no_role(SHOP), InvalidRole))
        check_errors(self, twins, Argument(GOODS, NO_SCENES, InvalidScene), Argument(("who",), no_role(GOODS), InvalidRole))
        no_bridges = [value for value in EVERY if value != ("order",)] + [("order", "order"), ("stock",), ("buyer",)]
        check_errors(self, twins_along, Argument(SHOP, NO_SCENES, InvalidScene),
                     Argument("buyer", no_role(SHOP), InvalidRole), Argument("stock", no_table(SHOP), UnknownName),
                     Argument(("order",), no_bridges, InvalidOperation))
        check_errors(self, twins_along, Argument(GOODS, NO_SCENES, InvalidScene),
                     Argument(("who",), no_role(GOODS), InvalidRole), Argument("stock", no_table(GOODS), UnknownName),
                     Argument(("order", "place"), [("order",), ("place", "order"), ["order", "place"]], InvalidOperation))
        self.raises(InvalidOperation, twins_along, SHOP, "buyer", "buyer", ("order",))
        self.raises(InvalidOperation, twins_along, SHOP, "buyer", "order", ("stock",))
        self.raises(InvalidOperation, twins_along, GOODS, ("who",), "place", ("order",))
        self.raises(InvalidRole, twins_along, GOODS, "place", "zz", ())


class Judged(Case):

    def near(self, scene, role, chance):
        """Triples that are twins, and ones that are near twins."""
        made = twins(scene, role)
        found = [made, (made[0], made[2], made[1]), tuple(chance.randrange(3) for _ in made[0]) and
                 (tuple(chance.randrange(3) for _ in made[0]), *made[1:])]
        found = [triple for triple in found if triple]
        for _ in range(8):
            integers, first, second = made
            table = chance.choice(scene.tables)
            row = tuple(chance.randrange(4) for _ in scene.columns_of(table))
            bases = []
            for base, far in ((first, chance.random() < 0.6), (second, chance.random() < 0.6)):
                rows = dict(base.rows(table))
                if far and chance.random() < 0.5:
                    rows.pop(chance.choice(sorted(rows)), None) if rows else None
                elif far:
                    rows[row] = 1 + (chance.random() < 0.1)
                bases.append(self.with_rows(base, table, rows))
            found.append((integers, *bases))
        return found

    def with_rows(self, base, table, rows):
        told = tuple(row for row, many in rows.items() for _ in range(many))
        try:
            return base.with_rows(table, told)
        except InvalidBase:
            return base

    def test_beside_the_slow_way(self):
        chance, told = Random(83), {True: 0, False: 0}
        for scene in (*MANY, *some_scenes(90, tables=4, columns=4, seed=83)):
            for role in roles_of(scene):
                if not is_served(scene, role):
                    for value in self.near(scene, role, chance):
                        self.assertIs(is_twins(scene, role, value), slow_is_twins(scene, role, value))
                        told[slow_is_twins(scene, role, value)] += 1
        self.assertGreater(told[True], 100)
        self.assertGreater(told[False], 100)

    def test_all_little_bases(self):
        found = 0
        orders, stocks = subsets(product((0, 1), (0, 1))), subsets([(0,), (1,)])
        for order, buyer in product(orders, ((), ((0,),), ((0,), (1,)))):
            for stock, other in product(stocks, stocks):
                first = Base(SHOP, buyer=buyer, order=order, stock=stock)
                second = first.with_rows("stock", other)
                for role, integers in (("buyer", (0,)), ("buyer", (1,)), (("who",), (0,)), ("order", (0, 1))):
                    good = slow_is_twins(SHOP, role, (integers, first, second))
                    self.assertIs(is_twins(SHOP, role, (integers, first, second)), good)
                    found += good
        self.assertGreater(found, 5)

    def test_served_roles_have_none(self):
        chance = Random(85)
        for scene in some_scenes(80, tables=4, columns=4, seed=85):
            for role in roles_of(scene):
                if is_served(scene, role):
                    for _ in range(4):
                        base = some_base(scene, chance, most=2, integers=2)
                        if scene.changing:
                            table = chance.choice(scene.changing)
                            row = tuple(chance.randrange(2) for _ in scene.columns_of(table))
                            value = (tuple(chance.randrange(2) for _ in role_columns(scene, role)), base, base.put(table, row))
                            self.assertIs(is_twins(scene, role, value), False)

    def test_the_own_table_can_have_rows(self):
        bases = [base.with_rows("buyer", rows) for base in (FIRST, SECOND) for rows in (((5,),), ((6,), (5,)))]
        self.assertIs(is_twins(SHOP, "buyer", ((0,), bases[0], bases[2])), True)
        self.assertIs(is_twins(SHOP, "buyer", ((0,), bases[1], bases[3])), True)
        self.assertIs(is_twins(SHOP, "buyer", ((0,), bases[0], bases[3])), False)
        self.assertIs(is_twins(SHOP, "buyer", ((0,), bases[0], SECOND)), False)
        # With a row that has a match the totals differ, and the view of all tables without columns is quiet.
        bases = [base.with_rows("buyer", ((0,),)) for base in (FIRST, SECOND)]
        self.assertIs(is_twins(SHOP, "buyer", ((0,), *bases)), False)

    def test_each_condition_by_itself(self):
        wrong = (
            ((0,), FIRST, FIRST), ((1,), FIRST, FIRST), ((5,), FIRST, SECOND), ((0, 0), FIRST, SECOND), ((), FIRST, SECOND),
            ((0,), FIRST.put("stock", (1,)), SECOND), ((0,), FIRST, SECOND.put("order", (1, 0))),
            ((0,), FIRST, SECOND.put("stock", (3,))), ((0,), FIRST.put("stock", (7,)), SECOND.put("stock", (8,))),
            ((0,), FIRST, SECOND.take("stock", (2,))), ((0,), FIRST.take("stock", (1,)), SECOND),
            ((0,), FIRST.put("order", (3, 3)), SECOND.put("order", (3, 3))), ((0,), FIRST, SECOND.put("buyer", (0,))),
            ((0,), FIRST.on(SHOP.held("stock")), SECOND.on(SHOP.held("stock"))), ((0,), FIRST, SECOND.on(SHOP.held("order"))),
            ((0,), FIRST), [(0,), FIRST, SECOND], ((0,), FIRST, SECOND, SECOND), ([0], FIRST, SECOND), ((True,), FIRST, SECOND),
            ((None,), FIRST, SECOND), (0, FIRST, SECOND), ((0,), SHOP, SECOND), ((0,), FIRST, None))
        for value in wrong:
            self.assertIs(is_twins(SHOP, "buyer", value), False, value)
        for value in EVERY:
            self.assertIs(is_twins(SHOP, "buyer", value), False)
            good = value in (TWINS[0], (1,)) and type(value[0]) is int
            self.assertIs(is_twins(SHOP, "buyer", (value, FIRST, SECOND)), good)
            self.assertIs(is_twins(SHOP, "buyer", ((0,), value, SECOND)), False)
            self.assertIs(is_twins(SHOP, "buyer", ((0,), FIRST, value)), False)
        self.assertIs(is_twins(SHOP, "buyer", ((0,), SECOND, FIRST)), True)
        # The same rows in a scene in which stock is held: nothing that changes is unlike.
        held = SHOP.held("stock")
        self.assertIs(is_twins(held, "buyer", ((0,), FIRST.on(held), SECOND.on(held))), False)
        self.assertIs(is_twins(SHOP, "stock", ((1,), FIRST, SECOND)), False)
        self.assertIs(is_twins(SHOP, ("who",), TWINS), False)
        both = [base.with_rows("buyer", ((0,), (1,))) for base in (FIRST, SECOND)]
        self.assertIs(is_twins(SHOP, ("who",), ((0,), *both)), True)

    def test_a_quiet_view_that_differs(self):
        # The number differs, but so does the quiet view of stock alone with the part that the door names.
        door = ("part", "who")
        rows = {"buyer": ((0,), (1,)), "order": ((1, 0), (2, 1))}
        first, second = Base(SHOP, stock=((1,),), **rows), Base(SHOP, stock=((2,),), **rows)
        self.same((number_of(first, door, (1, 0)), number_of(second, door, (1, 0))), (1, 0))
        self.assertIs(is_twins(SHOP, door, ((1, 0), first, second)), False)
        self.assertIs(is_twins(SHOP, ("who",), ((0,), first, second)), True)
        # With one row less in the strained table its number of rows tells them apart.
        self.assertIs(is_twins(SHOP, ("who",), ((0,), first, second.put("stock", (3,)))), False)
        # Without a buyer 1 the totals tell them apart.
        bases = [base.take("buyer", (1,)) for base in (first, second)]
        self.assertIs(is_twins(SHOP, ("who",), ((0,), *bases)), False)

    def test_rows_that_are_there_twice(self):
        twice = [base + base for base in (FIRST, SECOND)]
        for some in (twice, [base.put("stock", row) for base, row in ((FIRST, (1,)), (SECOND, (2,)))],
                     [base.put("order", (1, 0)).put("order", (2, 1)) for base in (FIRST, SECOND)],
                     [base.put("buyer", (5,), many=2) for base in (FIRST, SECOND)]):
            self.assertIs(is_twins(SHOP, "buyer", ((0,), *some)), False)
            self.assertIs(slow_is_twins(SHOP, "buyer", ((0,), *some)), False)
        self.assertIs(is_twins(SHOP, "buyer", ((0,), *[base.put("buyer", (5,)) for base in (FIRST, SECOND)])), True)

    def test_three_rows(self):
        for table, rows in (("order", ((1, 0), (2, 1), (8, 8))), ("buyer", ((5,), (6,), (7,)))):
            some = [base.with_rows(table, rows) for base in (FIRST, SECOND)]
            self.assertIs(is_twins(SHOP, "buyer", ((0,), *some)), False)
            some = [base.with_rows(table, rows[:2]) for base in (FIRST, SECOND)]
            self.assertIs(is_twins(SHOP, "buyer", ((0,), *some)), True)

    def test_what_is_found_has_to_be_the_same(self):
        scene = Scene(changing={"a": ("x",), "b": ("y",)}, fixed={"k": ("x", "z"), "m": ("y", "z")}, keyed={"k": ("x",)})
        made = twins(scene, "a")
        self.assertTrue(is_twins(scene, "a", made))
        for rows in ((), ((5, 5),), ((0, 1), (1, 0))):
            bases = [base.with_rows("k", rows) for base in made[1:]]
            self.assertIs(is_twins(scene, "a", (made[0], *bases)), slow_is_twins(scene, "a", (made[0], *bases)))
        self.assertIs(is_twins(scene, "a", ((0,), *[base.with_rows("k", ()) for base in made[1:]])), False)

    def test_errors(self):
        check_errors(self, is_twins, Argument(SHOP, NO_SCENES, InvalidScene), Argument("buyer", no_role(SHOP), InvalidRole),
                     Argument(TWINS, [], InvalidScene))


class Telling(Case):

    def test_beside_the_slow_way(self):
        for scene in (*MANY, *some_scenes(30, tables=4, columns=4, seed=86)):
            for role in roles_of(scene):
                made = twins(scene, role)
                if made:
                    told = list(telling_views(scene, role, made))
                    self.assertEqual(told, slow_telling(scene, role, made))
                    self.assertGreaterEqual(len(told), 1)
                    self.assertFalse(any(is_quiet(scene, view) for view in told))

    def test_views_of_pieces_tell(self):
        for scene in MANY:
            for role in roles_of(scene):
                made = twins(scene, role)
                if made:
                    self.assertTrue(set(telling_views(scene, role, made)) & set(piece_views(scene, role)))
        self.assertIn((("order", "stock"), ("who",)), book(SHOP))

    def test_one_by_one(self):
        generator = telling_views(SHOP, "buyer", TWINS)
        self.assertTrue(isgenerator(generator))
        self.same(next(generator), (("order", "stock"), ("who",)))

    def test_errors(self):
        wrong = [*EVERY, ((0,), FIRST, FIRST), ((1,), FIRST), [(0,), FIRST, SECOND], ((5,), FIRST, SECOND)]
        check_errors(self, telling_views, Argument(SHOP, NO_SCENES, InvalidScene),
                     Argument("buyer", no_role(SHOP), InvalidRole), Argument(TWINS, wrong, InvalidOperation))
        check_errors(self, telling_views, Argument(GOODS, NO_SCENES, InvalidScene),
                     Argument(("who",), no_role(GOODS), InvalidRole),
                     Argument(twins(GOODS, ("who",)), [TWINS, None], InvalidOperation))
        for role in subsets(GOODS.columns):
            if is_served(GOODS, role):
                self.lazily(InvalidOperation, telling_views, GOODS, role, TWINS)

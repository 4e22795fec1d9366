"""Stage 9: pieces, their views, and the number of a role."""

from math import prod
from random import Random

from fewtouched.base.bases import Base
from fewtouched.base.matches import answer, difference
from fewtouched.base.scenes import Scene
from fewtouched.books.pieces import closed_piece, factors, number_by, piece_views, pieces
from fewtouched.errors import InvalidBase, InvalidOperation, InvalidRole, InvalidScene
from fewtouched.strain.bridges import bridges, strained_tables
from fewtouched.views.quiet import is_quiet
from fewtouched.views.views import entry
from tests.arguments import Argument, check_errors
from tests.oracle import (role_columns, roles_of, slow_finds, slow_number, slow_piece_view, slow_pieces, some_base,
                          some_scenes, subsets)
from tests.test_matches import apart, around
from tests.values import (CHAIN, Case, DAY, EVERY, FAR, GOODS, LONG, NO_BASES, NO_SCENES, SHELVES, SHOP, no_integers,
                          no_role, no_tables)

NEAR = Base(GOODS, order=((10, 1), (20, 1)), place=((10, 7), (20, 7)), stock=((7,), (7,)))

# Keyed tables that are added to pieces, one of them with the key (), and a table without columns.
MANY = Scene(changing={"move": ("a", "b"), "side": ("b", "c")},
             fixed={"any": ("f",), "bare": (), "key": ("c", "d"), "lead": ("d", "e")},
             keyed={"any": (), "key": ("c",), "lead": ("d",)})


def no_given(scene, role):
    """Values that cannot be given as tables beside the role."""
    wrong = [value for value in no_tables(scene) if value is not None]
    if isinstance(role, str):
        wrong += [tables for tables in subsets(scene.tables)[1:] if role not in tables]
    return wrong


def given_of(scene, role):
    """All tables that can be given beside the role."""
    return [tables for tables in subsets(scene.tables)[1:] if not isinstance(role, str) or role in tables]


class Document(Case):

    def test_examples(self):
        self.assertEqual(
            [pieces(SHOP, "order"), pieces(SHOP, "buyer"), pieces(GOODS, "order"),
             pieces(SHOP, "order", tables=("order", "stock"))],
            [(("buyer",), ("stock",)), (("order", "stock"),), (("place",), ("stock",)), (("stock",),)])
        self.assertEqual(
            [piece_views(SHOP, ("who",)), closed_piece(GOODS, "stock", ("order", "place"))],
            [((("buyer",), ("who",)), (("order", "stock"), ("who",))), ("order", "place")])
        self.assertEqual(
            [number_by(DAY, "buyer", (1,)), factors(DAY, "buyer", (1,)), number_by(DAY, "stock", (20,)),
             number_by(DAY, "order", (10, 5))],
            [2, (((("order", "stock"), ("who",)), (1,), 2),), 2, 0])
        self.assertEqual(
            [number_by(NEAR, "stock", (7,)), number_by(NEAR, "order", (20, 3)), factors(NEAR, "order", (30, 1)),
             number_by(NEAR, "order", (30, 1))],
            [2, 2, None, 0])


class Pieces(Case):

    def test_all_tables(self):
        self.same(pieces(MANY, "move"), (("any",), ("bare",), ("key", "lead", "side")))
        self.same(pieces(MANY, "side"), (("any",), ("bare",), ("key",), ("lead",), ("move",)))
        self.same(pieces(MANY, ()), (("any",), ("bare",), ("key", "lead", "move", "side")))
        self.same(pieces(MANY, MANY.columns), (("any",), ("bare",), ("key",), ("lead",), ("move",), ("side",)))
        self.same(pieces(MANY, "move", tables=None), pieces(MANY, "move"))

    def test_some_tables(self):
        self.same(pieces(MANY, "move", tables=("move",)), ())
        self.same(pieces(MANY, "move", tables=("any", "lead", "move", "side")), (("any",), ("lead",), ("side",)))
        self.same(pieces(MANY, "move", tables=("key", "move", "side")), (("key", "side"),))
        self.same(pieces(MANY, ("c",), tables=("lead", "move", "side")), (("lead",), ("move", "side")))
        self.same(pieces(MANY, ("c",), tables=("key", "lead")), (("key",), ("lead",)))
        self.same(pieces(MANY, ("c",), tables=("lead",)), (("lead",),))

    def test_a_door_whose_columns_none_of_the_given_tables_has(self):
        self.same(pieces(MANY, ("f",), tables=("key", "lead")), (("key", "lead"),))
        self.same(piece_views(MANY, ("f",), tables=("key", "lead")), ((("key", "lead"), ()),))
        self.same(pieces(SHOP, ("who",), tables=("stock",)), (("stock",),))
        self.same(piece_views(SHOP, ("who",), tables=("stock",)), ((("stock",), ()),))
        self.same(number_by(DAY, ("who",), (99,), tables=("stock",)), 1)
        self.same(factors(DAY, ("who",), (99,), tables=("stock",)), (((("stock",), ()), (), 1),))

    def test_tables_without_further_columns(self):
        self.same(pieces(SHOP, "order"), (("buyer",), ("stock",)))
        same = Scene(changing={"a": ("x", "y"), "b": ("x", "y"), "c": ("x",), "d": ("y",), "e": ()})
        self.same(pieces(same, "a"), (("b",), ("c",), ("d",), ("e",)))
        self.same(pieces(same, "c"), (("a", "b", "d"), ("e",)))
        self.same(pieces(same, "e"), (("a", "b", "c", "d"),))

    def test_order_by_the_least_tables(self):
        scene = Scene(changing={"m": ("x",)}, fixed={"a": ("y",), "b": ("z",), "c": ("z", "x"), "d": ("y", "x")})
        self.same(pieces(scene, "m"), (("a", "d"), ("b", "c")))

    def test_beside_the_slow_way(self):
        for scene in (SHOP, GOODS, CHAIN, FAR, MANY, *some_scenes(60, tables=5, seed=40)):
            for role in roles_of(scene):
                for given in [scene.tables, *given_of(scene, role)[:4]]:
                    found = slow_pieces(scene, role, given)
                    self.same(pieces(scene, role, tables=given), found)
                    self.same(piece_views(scene, role, tables=given),
                              tuple(slow_piece_view(scene, role, piece, given) for piece in found))
                    for piece in found:
                        self.same(closed_piece(scene, role, piece, tables=given),
                                  slow_piece_view(scene, role, piece, given)[0])
                self.same(piece_views(scene, role), piece_views(scene, role, tables=scene.tables))

    def test_errors(self):
        for function in (pieces, piece_views):
            for scene, role in ((SHOP, "order"), (GOODS, ("shelf",)), (GOODS, "stock")):
                check_errors(self, function, Argument(scene, NO_SCENES, InvalidScene),
                             Argument(role, no_role(scene), InvalidRole),
                             Argument(None, no_given(scene, role), InvalidOperation, "tables"))
            self.raises(InvalidRole, function, GOODS, "place", tables=("order",))


class ClosedPieces(Case):

    def test_keyed_tables_are_added(self):
        self.same(closed_piece(MANY, "side", ("key",)), ("any", "key", "lead"))
        self.same(closed_piece(MANY, "side", ("lead",)), ("any", "lead"))
        self.same(closed_piece(MANY, "side", ("move",)), ("any", "move"))
        self.same(closed_piece(MANY, "side", ("bare",)), ("any", "bare"))
        self.same(closed_piece(MANY, "side", ("any",)), ("any",))
        self.same(closed_piece(MANY, "move", ("key", "lead", "side")), ("any", "key", "lead", "side"))
        self.same(closed_piece(MANY, "side", ("key",), tables=("key", "side")), ("key",))
        self.same(closed_piece(MANY, "side", ("key",), tables=("key", "lead", "side")), ("key", "lead"))

    def test_views(self):
        self.same(piece_views(MANY, "side"), ((("any",), ("f",)), (("any", "bare"), ()),
                                              (("any", "key", "lead"), ("c", "d")), (("any", "lead"), ("d", "e")),
                                              (("any", "move"), ("b",))))

    def test_a_key_that_lies_outside_is_not_used(self):
        scene = Scene(changing={"m": ("a",)}, fixed={"s": ("a", "b"), "k": ("b", "c")}, keyed={"k": ("b",)})
        self.same(piece_views(scene, "m"), ((("k", "s"), ("a",)),))
        self.same(pieces(scene, ("b",)), (("k",), ("m", "s")))
        self.same(piece_views(scene, ("b",)), ((("k",), ("b", "c")), (("k", "m", "s"), ("b",))))

    def test_equal_views(self):
        scene = Scene(changing={"m": ("a",)}, fixed={"one": (), "two": ()}, keyed={"one": (), "two": ()})
        self.same(piece_views(scene, "m"), ((("one", "two"), ()), (("one", "two"), ())))
        self.same(pieces(scene, "m"), (("one",), ("two",)))
        base = Base(scene, one=((),), two=((),))
        self.same(factors(base, "m", (5,)), (((("one", "two"), ()), (), 1),) * 2)
        self.same(number_by(base, "m", (5,)), 1)

    def test_what_is_no_piece(self):
        for scene, role in ((SHOP, "order"), (SHOP, "buyer"), (GOODS, ("shelf",))):
            good = pieces(scene, role)
            for value in [*EVERY, *subsets(scene.tables), scene.tables[::-1], ["buyer"], "buyer"]:
                if type(value) is not tuple or value not in good:
                    self.raises(InvalidOperation, closed_piece, scene, role, value)
            check_errors(self, closed_piece, Argument(scene, NO_SCENES, InvalidScene),
                         Argument(role, no_role(scene), InvalidRole), Argument(good[0], [("zz",), 5], InvalidOperation),
                         Argument(None, no_given(scene, role), InvalidOperation, "tables"))
        self.raises(InvalidOperation, closed_piece, SHOP, "order", ("buyer",), tables=("order", "stock"))
        self.same(closed_piece(SHOP, "order", ("stock",), tables=("order", "stock")), ("stock",))
        self.raises(InvalidOperation, closed_piece, SHOP, "buyer", ("stock", "order"))


class Numbers(Case):

    def test_all_tables(self):
        self.same(number_by(DAY, "stock", (10,)), 2)
        self.same(number_by(DAY, "buyer", (3,)), 0)
        self.same(number_by(DAY, (), ()), 2)
        self.same(number_by(DAY, ("part", "who"), (10, 1)), 2)
        self.same(number_by(DAY, ("who",), (2,)), 0)

    def test_some_tables(self):
        self.same(number_by(DAY, "buyer", (2,), tables=("buyer", "order")), 1)
        self.same(number_by(DAY, "stock", (99,), tables=("buyer", "stock")), 2)
        self.same(number_by(DAY, ("who",), (1,), tables=("order",)), 3)
        self.same(number_by(NEAR, "order", (30, 1), tables=("order", "stock")), 2)
        self.same(number_by(NEAR, "order", (30, 1), tables=("order", "place")), 0)
        self.same(factors(NEAR, "order", (30, 1), tables=("order", "stock")), (((("stock",), ()), (), 2),))

    def test_no_pieces(self):
        for base, role, integers in ((DAY, "stock", (99,)), (DAY, "order", (1, 2)), (SHELVES, "stock", (LONG,))):
            self.same(number_by(base, role, integers, tables=(role,)), 1)
            self.same(factors(base, role, integers, tables=(role,)), ())
        lonely = Base(Scene(changing={"t": ("a",)}), t=((1,), (1,)))
        self.same(number_by(lonely, "t", (1,)), 1)
        self.same(factors(lonely, "t", (1,)), ())
        self.same(number_by(lonely, ("a",), (1,)), 2)

    def test_nothing_found(self):
        self.assertIsNone(factors(SHELVES, ("part", "shelf"), (20, 8)))
        self.same(number_by(SHELVES, ("part", "shelf"), (20, 8)), 0)
        bare = Scene(changing={"m": ("a",)}, fixed={"k": ()}, keyed={"k": ()})
        self.assertIsNone(factors(Base(bare), "m", (1,)))
        self.same(number_by(Base(bare), "m", (1,)), 0)
        self.same(factors(Base(bare, k=((),)), "m", (1,)), (((("k",), ()), (), 1),))
        self.same(factors(Base(bare), "m", (1,), tables=("m",)), ())

    def test_rows_several_times(self):
        base = Base(SHOP, buyer=((1,),) * 2, order=((10, 1),) * 3 + ((20, 1),), stock=((10,),) * 5 + ((20,),) * 7)
        self.same(number_by(base, "buyer", (1,)), 22)
        self.same(number_by(base, "order", (10, 1)), 10)
        self.same(number_by(base, ("who",), (1,)), 44)
        self.same(factors(base, ("who",), (1,)), (((("buyer",), ("who",)), (1,), 2), ((("order", "stock"), ("who",)), (1,), 22)))
        more = base.put("stock", (10,), many=LONG)
        self.same(number_by(more, "order", (10, 1)), 2 * (LONG + 5))

    def test_far_more_matches_than_can_be_made(self):
        self.same(number_by(apart(), "a", (7,)), 66 ** 5)
        self.same(prod(one[2] for one in factors(apart(), "a", (7,))), 66 ** 5)
        self.same(number_by(around(), ("a", "z"), (7, 0)), 80 ** 4)
        self.same(number_by(around(), ("a",), (7,)), 80 ** 4)

    def test_product_of_the_entries(self):
        chance = Random(41)
        for scene in some_scenes(120, tables=5, seed=41):
            base = some_base(scene, chance, most=5)
            for role in chance.sample(roles_of(scene), min(4, len(roles_of(scene)))):
                for given in [None, *given_of(scene, role)[:3]]:
                    self.check_number(base, role, given, chance)

    def check_number(self, base, role, given, chance):
        scene, columns = base.scene, role_columns(base.scene, role)
        tables = given or scene.tables
        integers = tuple(chance.randrange(3) for _ in columns)
        choices = slow_finds(base, columns, integers, tables)
        told, number = factors(base, role, integers, tables=given), number_by(base, role, integers, tables=given)
        self.same(number, slow_number(base, role, integers, tables))
        if not choices:
            self.assertIsNone(told)
            self.same(number, 0)
        else:
            views = piece_views(scene, role, tables=given)
            self.same(told, tuple((view, tuple(choices[0][column] for column in view[1]),
                                   entry(base, view, tuple(choices[0][column] for column in view[1])))
                                  for view in views))
            self.same(number, prod(one[2] for one in told))
        if given is None:
            self.same(number, difference(base, role, integers) if isinstance(role, str)
                      else answer(base, role, integers))

    def test_errors(self):
        for function in (number_by, factors):
            check_errors(self, function, Argument(DAY, NO_BASES, InvalidBase),
                         Argument("order", no_role(SHOP), InvalidRole),
                         Argument((10, 1), no_integers(2), InvalidOperation),
                         Argument(None, no_given(SHOP, "order"), InvalidOperation, "tables"))
            check_errors(self, function, Argument(NEAR, NO_BASES, InvalidBase),
                         Argument(("shelf",), no_role(GOODS), InvalidRole),
                         Argument((7,), no_integers(1), InvalidOperation),
                         Argument(("place",), no_given(GOODS, ("shelf",)), InvalidOperation, "tables"))
            self.raises(InvalidRole, function, NEAR, "place", (1, 2))


class Loud(Case):
    """The view of a piece is loud exactly if the role is strained with a table in it [9.2]."""

    def test_views_and_bridges(self):
        for scene in (SHOP, GOODS, FAR, MANY, *some_scenes(80, seed=42)):
            for role in roles_of(scene):
                straining = strained_tables(scene, role)
                for piece, view in zip(pieces(scene, role), piece_views(scene, role)):
                    self.assertEqual(is_quiet(scene, view), not set(piece) & set(straining))
                    for table in set(piece) & set(straining):
                        for path in bridges(scene, role, table):
                            self.assertLessEqual(set(path), set(piece))

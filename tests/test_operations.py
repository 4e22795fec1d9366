"""Stage 15: steps, mends, heals, and bases beside one another."""

from inspect import isgenerator
from random import Random

from fewtouched.base.bases import Base
from fewtouched.base.matches import total_of
from fewtouched.base.scenes import Scene
from fewtouched.books.books import is_quiet_book
from fewtouched.change.operations import (behind, beside, come, gone, heal, is_heal, mends, possible_steps)
from fewtouched.errors import InvalidBase, InvalidOperation, InvalidRole, InvalidScene, TooMany
from fewtouched.strain.bridges import strains
from tests.arguments import Argument, check_errors
from tests.oracle import some_base, some_scenes, subsets
from tests.slow import is_quiet_behind, slow_behind, slow_heals, slow_steps, slow_strains
from tests.values import CHAIN, Case, DAY, EVERY, FAR, GOODS, LONG, NO_BASES, NO_SCENES, SHELVES, SHOP, no_doors

STILL = SHOP.held("buyer", "order", "stock")
LONE = Scene(fixed={"t": ("a", "b")})
STAR = Scene(changing={"a": ("x",), "b": ("y",), "c": ("z",), "hub": ("x", "y", "z")})
SCENES = (SHOP, GOODS, CHAIN, FAR, STILL, LONE, STAR)
WORDS = ("drop", "free", "hold", "key", "shut", "unkey")


def some_cases(many, seed, most=2, **more):
    """Pairs of a scene and some doors, in any order and perhaps repeated."""
    chance = Random(seed)
    for scene in (*SCENES, *some_scenes(many, seed=seed, **more)):
        doors = subsets(scene.columns)
        yield scene, tuple(chance.choice(doors) for _ in range(chance.randint(0, most)))
        yield scene, ()


class Document(Case):

    def test_examples(self):
        self.assertEqual(
            [list(mends(SHOP, ())), gone(SHOP, (), ("hold", "stock")), come(GOODS, (), ("unkey", "place"))],
            [[("hold", "buyer"), ("hold", "stock")], (("buyer", "stock"),), (("order", "stock"),)])
        self.assertEqual(
            [list(mends(GOODS, (("who",),))), is_heal(GOODS, (("who",),), (("shut", ("who",)),)), heal(GOODS, ())],
            [[("hold", "stock"), ("shut", ("who",))], True, ()])


class Steps(Case):

    def test_told_one_by_one(self):
        self.assertEqual(list(possible_steps(GOODS, (("who",), (), ("who",)))), [
            ("drop", "order"), ("drop", "place"), ("drop", "stock"), ("free", "place"), ("hold", "order"), ("hold", "stock"),
            ("shut", ()), ("shut", ("who",)), ("unkey", "place")])
        self.assertEqual(list(possible_steps(LONE, ())), [
            ("free", "t"), ("key", "t", ()), ("key", "t", ("a",)), ("key", "t", ("a", "b")), ("key", "t", ("b",))])
        self.assertEqual(list(possible_steps(Scene(changing={"t": ()}), ())), [("hold", "t")])
        self.assertEqual(list(possible_steps(Scene(fixed={"t": ()}, keyed={"t": ()}), ((),))),
                         [("free", "t"), ("shut", ()), ("unkey", "t")])

    def test_all_of_all_tuples(self):
        for scene, doors in some_cases(60, 110):
            told = list(possible_steps(scene, doors))
            self.same(tuple(told), tuple(slow_steps(scene, doors)))
            self.assertTrue(all(step[0] in WORDS for step in told))
            self.assertEqual(told, sorted(told))
            for step in told:
                new, left = behind(scene, doors, step)
                self.same((new.lines, left), (slow_behind(scene, doors, step)[0].lines, slow_behind(scene, doors, step)[1]))
                self.assertIs(type(behind(scene, doors, step)), tuple)

    def test_doors_that_go(self):
        doors = (("who",), ("part",), (), ("part", "who"), ("part",))
        self.same(behind(SHOP, doors, ("drop", "buyer"))[1], ((), ("part",), ("part", "who"), ("who",)))
        self.same(behind(SHOP.without("stock"), doors, ("drop", "order"))[1], ((), ("who",)))
        self.same(behind(SHOP, doors, ("shut", ("part",)))[1], ((), ("part", "who"), ("who",)))
        self.assertEqual(behind(SHOP, doors, ("shut", ("part",)))[0], SHOP)
        self.same(behind(SHOP, doors, ("hold", "order"))[1], ((), ("part",), ("part", "who"), ("who",)))
        self.same(behind(GOODS, (), ("free", "place"))[0].lines[1], ("place", ("part", "shelf"), "changing"))
        self.same(behind(GOODS, (), ("unkey", "place"))[0].lines[1], ("place", ("part", "shelf"), None))
        self.same(behind(LONE, (), ("key", "t", ("b",)))[0].lines, (("t", ("a", "b"), ("b",)),))

    def test_strains_that_end_and_begin(self):
        both = 0
        for scene, doors in some_cases(45, 111, tables=5, columns=5):
            for step in possible_steps(scene, doors):
                before, after = slow_strains(scene, doors), slow_strains(*slow_behind(scene, doors, step))
                ended = tuple(pair for pair in before if pair not in after)
                begun = tuple(pair for pair in after if pair not in before)
                self.same((gone(scene, doors, step), come(scene, doors, step)), (ended, begun))
                if step[0] in ("hold", "key", "shut"):
                    self.same(begun, ())
                if step[0] in ("free", "unkey"):
                    self.same(ended, ())
                both += step[0] == "drop" and bool(ended) and bool(begun)
        # A keyed table that is dropped gives names to none, so its strains of others begin.
        scene = Scene(changing={"a": ("x",), "b": ("y",), "c": ("z",)},
                      fixed={"k": ("x", "y"), "m": ("x", "y", "z")}, keyed={"k": ("x",)})
        self.same((gone(scene, (), ("drop", "a")), come(scene, (), ("drop", "m"))), ((("a", "c"),), ()))
        self.same(come(GOODS.without("stock"), (("who",),), ("drop", "order")), ())

    def test_dropping_can_do_both(self):
        scene = Scene(changing={"a": ("x",), "b": ("y",), "c": ("z",)},
                      fixed={"k": ("x", "y"), "m": ("x", "y"), "n": ("x", "z")}, keyed={"k": ("x",)})
        self.same(strains(scene), (("a", "c"), ("b", "c")))
        self.same((gone(scene, (), ("drop", "k")), come(scene, (), ("drop", "k"))), ((), (("a", "b"),)))
        self.same((gone(scene, (), ("drop", "n")), come(scene, (), ("drop", "n"))), ((("a", "c"), ("b", "c")), ()))
        # k names all columns for a, and is a bridge between all others; m is one between a and b.
        scene = Scene(changing={"a": ("x",), "b": ("y",), "c": ("p",), "d": ("q",)},
                      fixed={"k": ("x", "y", "p", "q"), "m": ("x", "y")}, keyed={"k": ("x",)})
        self.same(strains(scene), (("b", "c"), ("b", "d"), ("c", "d")))
        self.same(gone(scene, (("p",),), ("drop", "k")), (*strains(scene), (("p",), "b"), (("p",), "d")))
        self.same(come(scene, (("p",),), ("drop", "k")), (("a", "b"),))

    def test_one_by_one(self):
        generator = possible_steps(SHOP, (("who",),))
        self.assertTrue(isgenerator(generator))
        self.same((next(generator), next(generator)), (("drop", "buyer"), ("drop", "order")))

    def test_what_is_not_possible(self):
        near = [("hold", "place"), ("free", "order"), ("key", "place", ("part",)), ("key", "place", ()), ("unkey", "order"),
                ("drop", "zz"), ("shut", ("part",)), ("shut", "order"), ("hold",), ("hold", "order", ()), ["hold", "order"],
                ("drop", ("order",)), ("key", "place"), ("unkey", "place", None), ("shut", ["who"]), ("hold", ["order"]),
                ("key", "place", None), ("key", "order", ("part",)), ("open", ("part",)), ("hold", "stock", None)]
        for function in (behind, gone, come):
            check_errors(self, function, Argument(GOODS, NO_SCENES, InvalidScene),
                         Argument((("who",),), no_doors(GOODS), InvalidRole),
                         Argument(("hold", "order"), [*EVERY, *near], InvalidOperation))
            for scene, step in ((LONE, ("drop", "t")), (LONE, ("key", "t", ("b", "a"))), (LONE, ("key", "t", ("c",))),
                                (LONE, ("key", "t", ["a"])), (SHOP, ("shut", ())), (LONE, ("hold", "t"))):
                self.raises(InvalidOperation, function, scene, (), step)
            for word in WORDS:
                for value in EVERY:
                    if (word, value) not in list(possible_steps(GOODS, (("who",),))):
                        self.raises(InvalidOperation, function, GOODS, (("who",),), (word, value))
                    self.raises(InvalidOperation, function, GOODS, (("who",),), (word, "place", value))

    def test_errors(self):
        for function in (possible_steps, mends, heal):
            check_errors(self, function, Argument(GOODS, NO_SCENES, InvalidScene),
                         Argument((("who",), ()), no_doors(GOODS), InvalidRole))


class Mends(Case):

    def test_beside_books(self):
        for scene, doors in some_cases(60, 113):
            expected = [step for step in slow_steps(scene, doors) if step[0] in ("hold", "key", "shut")
                        and is_quiet_book(*slow_behind(scene, doors, step))]
            self.same(tuple(mends(scene, doors)), tuple(expected))

    def test_a_quiet_book(self):
        self.assertEqual(list(mends(GOODS, ((),))), [("hold", "order"), ("hold", "stock"), ("shut", ())])
        self.assertEqual(list(mends(STILL, ()))[:2], [("key", "buyer", ()), ("key", "buyer", ("who",))])
        generator = mends(FAR, ())
        self.assertTrue(isgenerator(generator))
        self.assertEqual(list(generator), [("hold", "a"), ("hold", "b"), ("key", "s", ()), ("key", "u", ())])

    def test_keys_that_mend(self):
        scene = GOODS.with_key("place", None)
        self.assertEqual(list(mends(scene, ())), [
            ("hold", "order"), ("hold", "stock"), ("key", "place", ()), ("key", "place", ("part",)),
            ("key", "place", ("shelf",))])


class Heals(Case):

    def test_beside_all_sets_of_steps(self):
        for scene, doors in some_cases(60, 114, most=3, tables=5, columns=4):
            good = slow_heals(scene, doors)
            told = heal(scene, doors)
            self.assertIn(told, good)
            for value in good:
                self.assertIs(is_heal(scene, doors, value), True)
            if is_quiet_book(scene, doors):
                self.same(told, ())
            self.check_near(scene, doors, good)

    def check_near(self, scene, doors, good):
        steps = [step for step in slow_steps(scene, doors) if step[0] in ("hold", "shut")]
        for step in steps:
            for value in (good[0] + (step,), (step,) + good[0], (step,), good[0][1:] + (step,), good[0][:-1] + (step,)):
                self.assertIs(is_heal(scene, doors, value), value in good)
        for value in good:
            self.assertIs(is_heal(scene, doors, value[:-1]), not value)
            self.assertIs(is_heal(scene, doors, value[::-1]), len(value) < 2)

    def test_as_few_as_possible(self):
        self.same(len(heal(STAR, ())), 2)
        self.same(len(heal(STAR, (("x",), ("y",)))), 3)
        self.assertIs(is_heal(STAR, (), (("hold", "a"), ("hold", "b"))), True)
        self.assertIs(is_heal(STAR, (), (("hold", "a"), ("hold", "b"), ("hold", "c"))), False)
        # One table that is held serves two doors, so none of them is shut.
        doors = (("who",), ("part", "shelf"), ("part", "who"))
        self.same(heal(GOODS, doors), (("hold", "stock"),))
        self.assertIs(is_heal(GOODS, doors, (("shut", ("part", "who")), ("shut", ("who",)))), False)
        self.assertIs(is_heal(SHOP, (), (("hold", "buyer"),)), True)
        self.assertIs(is_heal(SHOP, (), (("hold", "order"),)), False)

    def test_one_table_or_door_that_is_strained_with_many(self):
        # b and c have the same names, so a alone strains them, and so does the door x.
        scene = Scene(changing={"a": ("x",), "b": ("y",), "c": ("y",)}, fixed={"s": ("x", "y")})
        self.same(strains(scene), (("a", "b"), ("a", "c")))
        self.same(heal(scene, ()), (("hold", "a"),))
        self.assertIs(is_heal(scene, (), (("hold", "b"), ("hold", "c"))), False)
        self.same(heal(scene.held("a"), (("x",),)), (("shut", ("x",)),))
        self.same(heal(scene, (("x",), ())), (("hold", "a"), ("shut", ("x",))))
        self.assertIs(is_heal(scene, (("x",),), (("hold", "b"), ("hold", "c"))), True)
        self.same(heal(scene.renamed("tables", {"a": "z"}), ()), (("hold", "z"),))
        doors = (("w", "x"), ("w",), ("x",))
        wide = scene.with_table("t", ("w", "y"), key=None).without("a")
        self.same(heal(wide, doors), (("hold", "b"), ("hold", "c")))
        self.same(heal(wide, doors[:1]), (("shut", ("w", "x")),))
        self.assertIs(is_heal(wide, doors[:2], (("shut", ("w",)), ("shut", ("w", "x")))), True)
        self.assertIs(is_heal(wide, doors[:2], (("shut", ("w", "x")), ("shut", ("w",)))), False)

    def test_doors_are_shut_in_their_order(self):
        scene = Scene(changing={name: ("y",) for name in "bcde"}, fixed={"s": ("v", "w", "x", "y")})
        doors = (("w", "x"), ("v",), ("x",))
        for told in (doors, doors[::-1], doors * 2):
            self.same(heal(scene, told), (("shut", ("v",)), ("shut", ("w", "x")), ("shut", ("x",))))
        self.same(heal(scene, (*doors, ("w",))), tuple(("hold", name) for name in "bcde"))

    def test_many_doors(self):
        for scene in (SHOP, GOODS, FAR, STAR, *some_scenes(20, seed=115)):
            doors = tuple(subsets(scene.columns))
            told = heal(scene, doors)
            self.assertTrue(is_heal(scene, doors, told))
            self.assertTrue(is_quiet_behind(scene, doors, told))
            self.same(told, heal(scene, doors[::-1] * 2))

    def test_other_values(self):
        for value in EVERY:
            self.assertIs(is_heal(SHOP, (), value), False)
            self.assertIs(is_heal(GOODS, (), value), type(value) is tuple and value == ())
            self.assertIs(is_heal(SHOP, (), (value,)), False)
            self.assertIs(is_heal(SHOP, (), (("hold", "buyer"), value)), False)
        for value in ([("hold", "buyer")], (["hold", "buyer"],), ("hold", "buyer"), (("hold", "zz"),), (("shut", ("who",)),),
                      (("hold", "buyer", None),), (("drop", "buyer"),), (("hold", "buyer"), ("hold", "buyer"))):
            self.assertIs(is_heal(SHOP, (), value), False)
        self.assertIs(is_heal(GOODS.with_key("place", None), (), (("key", "place", ("part",)),)), False)

    def test_errors(self):
        check_errors(self, is_heal, Argument(GOODS, NO_SCENES, InvalidScene),
                     Argument((("who",), ()), no_doors(GOODS), InvalidRole), Argument((), [], InvalidScene))


class Beside(Case):

    def test_totals_and_strains(self):
        chance = Random(116)
        one = {"tables": {name: "l" + name for name in ("one", "two", "six", "ten", "red", "odd")},
               "columns": {name: "l" + name for name in "abcdef"}}
        made = 0
        scenes = some_scenes(60, tables=3, columns=3, seed=116)
        for scene, other in zip(scenes, scenes[1:]):
            for kind, names in one.items():
                known = other.tables if kind == "tables" else other.columns
                other = other.renamed(kind, {old: new for old, new in names.items() if old in known})
            first, second = some_base(scene, chance), some_base(other, chance)
            both = beside(first, second)
            self.assertEqual(both.scene, scene | other)
            self.same(total_of(both), total_of(first) * total_of(second))
            self.same(strains(both.scene), tuple(sorted((*strains(scene), *strains(other)))))
            self.assertEqual(both, beside(second, first))
            self.same(both.size, first.size + second.size)
            made += total_of(both) > 0
        self.assertGreater(made, 5)

    def test_times(self):
        other = Base(Scene(changing={"t": ()}), t=((),)).put("t", (), many=LONG)
        both = beside(DAY, other)
        self.told(both.rows("order"), {(10, 1): 2, (20, 1): 1, (20, 2): 1})
        self.same((both.times("t", ()), total_of(both)), (LONG + 1, 2 * (LONG + 1)))

    def test_what_cannot_be_beside(self):
        wide = Scene(changing={name: () for name in "abcd"})
        for scene in (Scene(changing={"stock": ("x",)}), Scene(fixed={"t": ("who",)}), SHOP, SHOP.held("stock"), GOODS, wide,
                      Scene(changing={"t": ("a", "b", "c", "d"), "u": ("e",)})):
            self.raises(InvalidOperation, beside, DAY, Base(scene))
            self.raises(InvalidOperation, beside, Base(scene), DAY)
        # A table without columns in both, although its line is the same in both.
        self.raises(InvalidOperation, beside, Base(SHOP | Scene(fixed={"t": ()})), Base(Scene(fixed={"t": ()})))
        six = Scene(changing={"t": ("a", "b", "c", "d")})
        self.same(len(beside(DAY, Base(six)).scene.columns), 6)
        self.same(len(beside(DAY, Base(wide.without("a"))).scene), 6)
        self.raises(InvalidOperation, beside, SHELVES, Base(six))

    def test_four_hundred_rows(self):
        scene = Scene(changing={"t": ("a",)})
        rows = tuple((at,) for at in range(394))
        self.same(beside(DAY, Base(scene, t=rows)).size, 400)
        self.raises_with(TooMany, "limit", 400, beside, DAY, Base(scene, t=(*rows, (394,))))

    def test_errors(self):
        check_errors(self, beside, Argument(DAY, NO_BASES, InvalidBase),
                     Argument(Base(Scene(changing={"t": ()})), NO_BASES, InvalidBase))

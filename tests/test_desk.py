"""Stage 16: a desk."""

from copy import deepcopy
from random import Random

from fewtouched.base.bases import Base
from fewtouched.base.scenes import Scene
from fewtouched.books.books import first_strained, is_quiet_book
from fewtouched.books.keeper import Keeper
from fewtouched.desk.desk import Desk
from fewtouched.errors import (InvalidBase, InvalidEdit, InvalidNumber, InvalidOperation, InvalidRole, InvalidScene,
                               NothingToUndo, NotThere, Strained, TooMany, UnknownName)
from tests.arguments import Argument, check_errors
from tests.oracle import LETTERS, some_base, some_scenes, subsets
from tests.plain import LENGTHS, PlainDesk
from tests.slow import slow_total
from tests.values import (Case, DAY, EVERY, FAR, GOODS, LONG, NO_BASES, NO_NUMBERS, SHELVES, SHOP, no_columns,
                          no_integers, no_table)

HELD = DAY.on(SHOP.held("stock"))
STALL = Base(GOODS, order=((10, 1), (10, 1), (20, 2)), place=((10, 7), (20, 8)), stock=((7,),))


def day():
    """A desk with two bases; the one has a door."""
    desk = Desk()
    desk.apply(("scene", "day", HELD), ("open", "day", ("who",)))
    desk.apply(("scene", "goods", STALL))
    return desk


def seen(desk):
    """All that is to be seen of a desk without changing it."""
    return (list(desk), len(desk), desk.log, desk.watches, str(desk),
            [(desk.base_of(name).scene.lines, [desk.base_of(name).rows(table) for table in desk.base_of(name).scene],
              desk.doors_of(name), desk.total_at(name), desk.work(name)) for name in desk])


class Document(Case):

    def test_examples(self):
        desk = Desk()
        self.assertEqual(
            desk.apply(("scene", "day", DAY.on(SHOP.held("stock"))), ("open", "day", ("who",))), 1)
        self.assertEqual(
            [desk.total_at("day"), desk.ask("day", ("who",), (1,)), desk.watch("day", ("who",), (2,)),
             desk.apply(("put", "day", "order", (10, 2), 1))],
            [2, 2, 0, 2])
        self.assertEqual(
            [desk.news(), desk.work("day"), desk.undo(), desk.news(), list(desk)],
            [((0, 0, 1),), (3, 2), 1, ((0, 1, 0),), ["day"]])


class Edits(Case):

    def test_each(self):
        desk = day()
        self.same((list(desk), len(desk), str(desk)), (["day", "goods"], 2, "desk of 2 scenes"))
        self.assertEqual(desk.base_of("day"), HELD)
        self.same((desk.doors_of("day"), desk.doors_of("goods"), desk.total_at("goods")), ((("who",),), (), 2))
        self.same(desk.apply(("put", "goods", "stock", (8,), 2), ("take", "goods", "order", (10, 1), 1)), 3)
        self.same((desk.total_at("goods"), desk.work("goods")), (3, (4, 4)))
        desk.apply(("rows", "goods", "place", ((10, 8), (20, 8))))
        self.same((desk.total_at("goods"), desk.work("goods")), (4, (4, 4)))
        desk.apply(("hold", "goods", "order"), ("free", "goods", "place"), ("open", "goods", ()))
        self.same((desk.base_of("goods").scene.changing, desk.doors_of("goods")), (("place", "stock"), ((),)))
        desk.apply(("hold", "goods", "place"), ("key", "goods", "place", ("part",)), ("free", "goods", "order"))
        self.assertEqual(desk.base_of("goods").scene, GOODS)
        desk.apply(("open", "goods", ("shelf",)), ("open", "goods", ("shelf",)), ("shut", "goods", ()))
        self.same((desk.doors_of("goods"), desk.ask("goods", ("shelf",), (8,))), ((("shelf",),), 4))
        desk.apply(("hold", "goods", "order"), ("key", "goods", "place", None), ("key", "goods", "place", ("shelf", "part")))
        self.same(desk.base_of("goods").scene.key_of("place"), ("part", "shelf"))
        self.same((desk.apply(("drop", "goods")), list(desk)), (9, ["day"]))
        self.same((desk.apply(("scene", "goods", STALL)), desk.work("goods")), (10, (0, 0)))

    def test_doors_stay(self):
        desk = Desk()
        desk.apply(("scene", "a", STALL), ("open", "a", ("shelf",)), ("open", "a", ()))
        for edit in (("put", "a", "stock", (7,), 1), ("rows", "a", "order", ()), ("hold", "a", "stock"),
                     ("free", "a", "stock"), ("hold", "a", "order"), ("key", "a", "place", None), ("take", "a", "stock", (7,), 1)):
            desk.apply(edit)
            self.same(desk.doors_of("a"), ((), ("shelf",)))

    def test_groups_without_edits_and_ones_that_change_nothing(self):
        desk = day()
        self.same((desk.apply(), desk.apply_all(()), len(desk)), (2, 2, 2))
        desk.undo()
        self.same((desk.apply(), desk.redo()), (1, 2))
        before = [desk.base_of(name) for name in desk]
        for edit in (("put", "day", "order", (5, 5), 0), ("open", "day", ("who",)), ("hold", "day", "stock"),
                     ("take", "day", "order", (5, 5), 0), ("free", "goods", "order")):
            many = len(desk)
            self.same(desk.apply(edit), many + 1)
            self.same(desk.log[-1], (edit,))
            self.assertEqual([desk.base_of(name) for name in desk], before)
        self.same(desk.work("day"), (0, 0))

    def test_all_or_none(self):
        desk = day()
        desk.apply(("put", "day", "order", (10, 2), 1))
        desk.undo()
        before = seen(desk)
        for bad, error in ((("put", "day", "stock", (1,), 1), InvalidOperation), (5, InvalidEdit), (("drop", "zz"), UnknownName),
                           (("take", "day", "buyer", (7,), 1), NotThere), (("open", "day", ("part",)), Strained),
                           (("scene", "day", HELD), InvalidOperation), (("scene", "more", DAY), Strained)):
            for edits in ((bad,), (("drop", "day"), ("scene", "day", STALL), ("drop", "day"), ("scene", "day", HELD),
                                   ("put", "goods", "stock", (1,), 5), bad, 5), (("scene", "new", STALL), bad)):
                self.raises(error, desk.apply, *edits)
                self.raises(error, desk.apply_all, edits)
                self.assertEqual(seen(desk), before)
        self.same((desk.redo(), desk.work("day")), (3, (3, 2)))

    def test_an_edit_depends_on_those_ahead_of_it(self):
        desk = Desk()
        self.raises_with(UnknownName, "name", "a", desk.apply, ("put", "a", "stock", (1,), 1), ("scene", "a", STALL))
        self.same(desk.apply(("scene", "a", STALL), ("drop", "a"), ("scene", "a", HELD)), 1)
        self.raises(Strained, desk.apply, ("hold", "a", "buyer"), ("free", "a", "stock"), ("free", "a", "buyer"))
        self.same(desk.apply(("hold", "a", "buyer"), ("free", "a", "stock")), 2)

    def test_apply_all(self):
        desk, other = Desk(), Desk()
        edits = (("scene", "a", STALL), ("put", "a", "stock", (7,), 2))
        self.same((desk.apply_all(edits), other.apply(*edits)), (1, 1))
        self.assertEqual(desk, other)
        self.same(desk.log, (edits,))
        self.same(other.log, (edits,))
        for value in EVERY:
            if type(value) is not tuple:
                self.raises(InvalidOperation, desk.apply_all, value)
        self.raises(InvalidOperation, desk.apply_all, list(edits))

    def test_too_many(self):
        wide = Scene(changing={"m": ("x", "y")}, fixed={"f": ("x", "z"), "g": ("y", "z")})
        rows = tuple((at, 0) for at in range(101))
        desk = Desk()
        self.raises_with(TooMany, "limit", 10000, desk.apply, ("scene", "a", Base(wide, f=rows, g=rows)))
        desk.apply(("scene", "a", Base(wide, f=rows, g=rows[:99])))
        self.raises_with(TooMany, "limit", 10000, desk.apply, ("rows", "a", "g", rows))
        self.raises_with(TooMany, "limit", 400, desk.apply, ("rows", "a", "m", tuple((at, 0) for at in range(201))))
        held = Base(wide.held("m").freed("f"), f=rows, g=rows)
        desk.apply(("scene", "b", held))
        self.raises_with(TooMany, "limit", 10000, desk.apply, ("hold", "b", "f"), ("free", "b", "m"))
        self.raises_with(TooMany, "limit", 10000, desk.apply, ("hold", "b", "f"), ("open", "b", ("x", "y")))
        full = Base(Scene(changing={"t": ("a",)}), t=tuple((at,) for at in range(400)))
        desk.apply(("scene", "full", full))
        self.raises_with(TooMany, "limit", 400, desk.apply, ("put", "full", "t", (400,), 1))
        self.same(len(desk), 3)


class WrongEdits(Case):

    def test_no_edits(self):
        desk = day()
        before = seen(desk)
        good = {"scene": ("new", HELD), "drop": ("day",), "put": ("day", "order", (1, 2), 1), "take": ("day", "order", (10, 1), 1),
                "rows": ("day", "stock", ()), "hold": ("day", "order"), "free": ("day", "order"),
                "key": ("day", "stock", ("part",)), "open": ("day", ()), "shut": ("day", ("who",))}
        self.assertEqual(sorted(good), sorted(LENGTHS))
        for word, values in good.items():
            edit = (word, *values)
            self.same(desk.apply(edit), 3)
            desk.undo()
            for wrong in (edit[:-1], (*edit, 1), (*edit, None), list(edit), (word.upper(), *values), (word + " ", *values),
                          (None, *values), ([word], *values), values, (word,), word, ((word, values),), {word: values}):
                if wrong != edit:
                    self.raises(InvalidEdit, desk.apply, wrong)
        for value in EVERY:
            self.raises(InvalidEdit, desk.apply, value)
            for many in range(6):
                self.raises(InvalidEdit, desk.apply, (value,) + ("day",) * many)
        self.assertEqual(seen(desk), before)

    def test_new_names(self):
        desk = day()
        for value in EVERY:
            good = type(value) is str and 0 < len(value) < 9 and all("a" <= sign <= "z" for sign in value)
            if not good:
                self.raises(InvalidOperation, desk.apply, ("scene", value, HELD))
                self.raises(InvalidOperation, desk.apply, ("scene", value, 5))
        for base in (HELD, DAY, None):
            self.raises(InvalidOperation, desk.apply, ("scene", "day", base))
        for value in NO_BASES:
            self.raises(InvalidBase, desk.apply, ("scene", "new", value))
        self.raises_with(Strained, "bridge", ("order",), desk.apply, ("scene", "new", DAY))
        self.same(desk.apply(("scene", "self", HELD), ("scene", "zzzzzzzz", HELD)), 3)

    def test_names(self):
        desk = day()
        for value in [value for value in EVERY if value not in ("day", "goods")] + ["Day", "da", "days", ""]:
            for more in ((), (5,), (5, 5), (5, 5, 5)):
                for word, many in LENGTHS.items():
                    if word != "scene" and many == len(more) + 2:
                        kept = self.raises(UnknownName, desk.apply, (word, value, *more))
                        self.assertIs(kept.name, value)

    def edit(self, desk, word, name):
        """A function that does an edit with these values."""
        def call(*values):
            return desk.apply((word, name, *values))
        return call

    def test_values(self):
        desk = day()
        for word, times in (("put", 1), ("take", 0)):
            check_errors(self, self.edit(desk, word, "day"), Argument("order", no_table(SHOP), UnknownName),
                         Argument((10, 1), no_integers(2), InvalidBase), Argument(times, NO_NUMBERS, InvalidNumber))
            self.raises(InvalidOperation, desk.apply, (word, "day", "stock", (10,), 0))
        for word in ("hold", "free"):
            check_errors(self, self.edit(desk, word, "goods"), Argument("order", no_table(GOODS), UnknownName))
        rows = [value for value in EVERY if type(value) is not tuple
                or not all(type(row) is tuple and len(row) == 1 and type(row[0]) is int for row in value)]
        check_errors(self, self.edit(desk, "rows", "day"), Argument("stock", no_table(SHOP), UnknownName),
                     Argument(((10,), (10,), (7,)), rows, InvalidBase))
        for word in ("open", "shut"):
            check_errors(self, self.edit(desk, word, "goods"), Argument(("shelf",), no_columns(GOODS), InvalidRole))
        self.raises(InvalidOperation, desk.apply, ("shut", "goods", ("shelf",)))
        self.raises(InvalidOperation, desk.apply, ("shut", "goods", ("who",)))

    def test_keys(self):
        desk = day()
        keys = [value for value in EVERY if value is not None and not (type(value) is tuple and value in ((), ("part",)))]
        check_errors(self, self.edit(desk, "key", "day"), Argument("stock", no_table(SHOP), UnknownName),
                     Argument(("part",), keys, InvalidScene))
        for table, key in (("stock", ()), ("stock", ("part",)), ("order", ("part",)), ("order", None), ("buyer", ())):
            self.raises(InvalidOperation, desk.apply, ("key", "day", table, key))
        self.raises(InvalidScene, desk.apply, ("key", "day", "order", ("shelf",)))
        desk.apply(("key", "day", "stock", None))
        self.raises(InvalidOperation, desk.apply, ("key", "day", "stock", None))
        desk.apply(("rows", "day", "stock", ((1,), (2,))))
        self.raises(InvalidBase, desk.apply, ("key", "day", "stock", ()))
        desk.apply(("rows", "day", "stock", ((1,), (1,))))
        self.raises(InvalidBase, desk.apply, ("key", "day", "stock", ("part",)))

    def test_strained(self):
        desk = day()
        desk.apply(("open", "goods", ("shelf",)))
        for edit, scene, doors in (
                (("free", "day", "stock"), SHOP, (("who",),)), (("free", "goods", "place"), GOODS.freed("place"), (("shelf",),)),
                (("key", "goods", "place", None), GOODS.with_key("place", None), (("shelf",),)),
                (("open", "goods", ("who",)), GOODS, (("who",), ("shelf",))), (("scene", "new", Base(FAR)), FAR, ()),
                (("open", "day", ("part",)), SHOP.held("stock"), (("part",), ("who",)))):
            self.raises_with(Strained, "bridge", first_strained(scene, doors)[2], desk.apply, edit)


class Undone(Case):

    def test_groups(self):
        desk = day()
        desk.apply(("put", "goods", "stock", (8,), 1), ("put", "goods", "stock", (9,), 1))
        desk.apply(("drop", "day"))
        states = [seen(desk)]
        for at in range(4):
            self.same(desk.undo(), 3 - at)
            states.append(seen(desk))
        self.same((list(desk), len(desk), desk.log), ([], 0, ()))
        for at in range(4):
            self.same(desk.redo(), at + 1)
            self.assertEqual(seen(desk), states[3 - at])
        self.same((desk.undo(many=3), desk.redo(many=2), desk.undo(many=0), desk.redo(many=0)), (1, 3, 3, 3))
        self.assertEqual(seen(desk), states[1])

    def test_nothing_to_undo(self):
        desk = day()
        for many in (3, 4, LONG):
            self.raises_with(NothingToUndo, "many", many, desk.undo, many=many)
        for many in (1, 2, LONG):
            self.raises_with(NothingToUndo, "many", many, desk.redo, many=many)
        desk.undo()
        self.raises_with(NothingToUndo, "many", 2, desk.redo, many=2)
        self.raises_with(NothingToUndo, "many", 2, desk.undo, many=2)
        self.same((len(desk), desk.redo()), (1, 2))
        for value in NO_NUMBERS:
            for call in (desk.undo, desk.redo):
                kept = self.raises(InvalidNumber, call, many=value)
                self.assertIs(kept.value, value)
        self.raises_with(NothingToUndo, "many", 1, Desk().undo)
        self.raises_with(NothingToUndo, "many", 1, Desk().redo)

    def test_a_new_group_forgets(self):
        desk = day()
        desk.undo()
        self.raises(InvalidEdit, desk.apply, 5)
        desk.apply()
        self.same(desk.redo(), 2)
        desk.undo()
        desk.apply(("put", "day", "order", (1, 1), 0))
        self.raises_with(NothingToUndo, "many", 1, desk.redo)
        self.assertEqual(desk.log, ((("scene", "day", HELD), ("open", "day", ("who",))), (("put", "day", "order", (1, 1), 0),)))

    def test_work_is_that_in_effect(self):
        desk = day()
        desk.apply(("put", "goods", "stock", (8,), 1))
        self.same(desk.work("goods"), (1, 2))
        desk.apply(("open", "goods", ("shelf",)), ("put", "goods", "order", (20, 9), 1))
        self.same((desk.work("goods"), desk.undo(), desk.work("goods")), ((4, 4), 3, (1, 2)))
        self.same((desk.redo(), desk.work("goods"), desk.undo(many=3)), (4, (4, 4), 1))
        self.raises(UnknownName, desk.work, "goods")
        desk.redo()
        self.same(desk.work("goods"), (0, 0))


class Asked(Case):

    def test_errors(self):
        desk = day()
        names = [value for value in EVERY if value not in ("day", "goods")]
        for call in (desk.base_of, desk.doors_of, desk.total_at, desk.work, desk.keeper):
            check_errors(self, call, Argument("day", names, UnknownName))
        for call in (desk.ask, desk.watch):
            check_errors(self, call, Argument("day", names, UnknownName), Argument(("who",), no_columns(SHOP), InvalidRole),
                         Argument((1,), no_integers(1), InvalidOperation))
            self.raises(InvalidOperation, call, "day", ("part",), (1,))
            self.raises(InvalidOperation, call, "day", ("part",), (1, 2))
            self.raises(InvalidOperation, call, "goods", (), ())
        self.assertEqual(len(desk.watches), 1)

    def test_keeper(self):
        desk = day()
        desk.apply(("put", "day", "order", (10, 2), 1))
        keeper = desk.keeper("day")
        self.assertEqual(keeper, Keeper(desk.base_of("day"), ("who",)))
        self.same(keeper.last, (0, 0))
        keeper.put("order", (10, 2), many=5)
        keeper.shut(("who",))
        self.same((desk.total_at("day"), desk.doors_of("day"), desk.work("day")), (3, (("who",),), (3, 2)))

    def test_very_many_digits(self):
        desk = Desk()
        desk.apply(("scene", "a", Base(Scene(changing={"t": (), "u": ()}))), ("put", "a", "t", (), LONG), ("put", "a", "u", (), LONG))
        desk.apply(("put", "a", "t", (), desk.total_at("a")), ("open", "a", ()))
        self.same(desk.ask("a", (), ()), LONG * (LONG + LONG ** 2))


class Watched(Case):

    def test_numbers(self):
        desk = day()
        self.same((desk.watch("day", ("who",), (1,)), desk.watch("day", ("who",), (2,)), desk.watch("day", ("who",), (1,))),
                  (0, 1, 2))
        self.same(desk.watches, (("day", ("who",), (1,)), ("day", ("who",), (2,)), ("day", ("who",), (1,))))
        self.same((desk.news(), desk.news()), ((), ()))

    def test_news(self):
        desk = day()
        desk.apply(("open", "goods", ("shelf",)))
        desk.watch("day", ("who",), (1,))
        desk.apply(("put", "day", "order", (10, 1), 3))
        desk.watch("day", ("who",), (1,))
        desk.watch("goods", ("shelf",), (7,))
        self.same((desk.news(), desk.news()), (((0, 2, 5),), ()))
        desk.apply(("put", "day", "order", (10, 1), 1), ("put", "goods", "stock", (7,), 1))
        desk.apply(("take", "day", "order", (10, 1), 1))
        self.same(desk.news(), ((2, 2, 4),))
        desk.undo(many=2)
        self.same(desk.news(), ((2, 4, 2),))
        desk.redo()
        self.same(desk.news(), ((0, 5, 6), (1, 5, 6), (2, 2, 4)))

    def test_names_and_doors_that_are_gone(self):
        desk = day()
        desk.watch("day", ("who",), (1,))
        desk.apply(("shut", "day", ("who",)))
        self.same((desk.news(), desk.news()), (((0, 2, None),), ()))
        desk.apply(("open", "day", ("who",)), ("put", "day", "order", (10, 1), 1))
        self.same(desk.news(), ((0, None, 3),))
        desk.apply(("drop", "day"))
        self.same(desk.news(), ((0, 3, None),))
        desk.apply(("scene", "day", HELD))
        self.same(desk.news(), ())
        desk.apply(("open", "day", ("who",)))
        self.same(desk.news(), ((0, None, 2),))
        desk.undo(many=len(desk))
        self.same((desk.news(), desk.watches), (((0, 2, None),), (("day", ("who",), (1,)),)))
        empty = Base(Scene(changing={"t": ("who",)}))
        desk.apply(("scene", "day", empty), ("open", "day", ("who",)))
        self.same(desk.news(), ((0, None, 0),))


class Trials(Case):

    def test_all_is_as_before(self):
        desk = day()
        desk.watch("day", ("who",), (1,))
        desk.apply(("put", "day", "order", (10, 1), 1))
        desk.undo(many=2)
        before = seen(desk)
        with desk.trial() as same:
            self.assertIs(same, desk)
            self.same((desk.redo(), desk.news()), (2, ()))
            desk.redo()
            self.same(desk.news(), ((0, 2, 3),))
            desk.watch("day", ("who",), (2,))
            desk.apply(("drop", "day"))
            self.same(desk.news(), ((0, 3, None), (1, 0, None)))
        self.assertEqual(seen(desk), before)
        self.same((desk.redo(many=2), desk.news()), (3, ((0, 2, 3),)))

    def test_by_an_error(self):
        desk = day()
        before = seen(desk)
        for error, edit in ((UnknownName, ("drop", "zz")), (InvalidEdit, None), (Strained, ("scene", "day", DAY))):
            with self.assertRaises(error):
                with desk.trial():
                    desk.undo()
                    desk.apply(("drop", "day"), ("scene", "new", STALL))
                    desk.apply(("free", "new", "order"), edit)
            self.assertEqual(seen(desk), before)
        with self.assertRaises(ZeroDivisionError):
            with desk.trial() as same:
                same.apply(("drop", "day"))
                raise ZeroDivisionError
        self.assertEqual(seen(desk), before)

    def test_begins_with_the_block(self):
        desk = day()
        trial = desk.trial()
        desk.apply(("drop", "goods"))
        with trial:
            desk.undo(many=3)
        self.same((list(desk), len(desk)), (["day"], 3))
        desk.apply(("drop", "day"))
        with trial as same:
            same.undo()
        self.same((list(desk), len(desk)), ([], 4))

    def test_one_in_another(self):
        desk = day()
        with desk.trial():
            desk.apply(("drop", "day"))
            with desk.trial():
                desk.undo(many=3)
                self.assertEqual(list(desk), [])
            self.same((list(desk), len(desk)), (["goods"], 3))
        self.same((list(desk), len(desk)), (["day", "goods"], 2))
        trial = desk.trial()
        with trial:
            desk.apply(("drop", "day"))
            with trial:
                desk.apply(("drop", "goods"))
            self.same(list(desk), ["goods"])
        self.same(list(desk), ["day", "goods"])

    def test_during(self):
        desk = day()
        before = seen(desk)

        def call(same):
            self.assertIs(same, desk)
            same.apply(("put", "goods", "stock", (7,), 1))
            return same.total_at("goods")
        self.same(desk.during(call), 4)
        self.assertEqual(seen(desk), before)
        self.same(desk.during(len), 2)
        self.assertIsNone(desk.during(lambda same: None))
        self.raises(UnknownName, desk.during, lambda same: same.apply(("drop", "day"), ("drop", "day")))
        self.raises_with(NothingToUndo, "many", 9, desk.during, lambda same: same.undo(many=9))
        self.assertEqual(seen(desk), before)

    def test_a_twin_out_of_a_trial(self):
        desk = day()
        twin = desk.during(lambda same: same.apply(("drop", "day")) and same.twin())
        self.same((list(twin), list(desk)), (["goods"], ["day", "goods"]))


class Values(Case):

    def test_equal(self):
        one, other = day(), Desk()
        other.apply(("scene", "goods", STALL))
        self.assertNotEqual(one, other)
        other.apply(("scene", "day", HELD))
        self.assertNotEqual(one, other)
        other.apply(("open", "day", ("who",)))
        self.assertEqual(one, other)
        other.apply(("put", "day", "order", (1, 1), 1), ("take", "day", "order", (1, 1), 1))
        other.watch("day", ("who",), (1,))
        self.assertEqual(one, other)
        other.apply(("rows", "goods", "stock", ()))
        self.assertNotEqual(one, other)
        self.assertEqual(Desk(), Desk())
        for value in EVERY:
            self.assertIs(one == value, False)
            self.assertIs(one != value, True)

    def test_names(self):
        desk = day()
        for value in EVERY:
            self.assertIs(value in desk, False)
        self.assertIs("day" in desk, True)
        self.assertIs("da" in desk, False)
        desk.apply(("scene", "a", STALL), ("scene", "zz", STALL))
        self.same(tuple(desk), ("a", "day", "goods", "zz"))

    def test_twin(self):
        desk = day()
        desk.apply(("put", "goods", "stock", (8,), 1))
        desk.watch("day", ("who",), (1,))
        twin = desk.twin()
        self.assertEqual(twin, desk)
        self.same((len(twin), twin.log, twin.watches, twin.news(), twin.work("goods")), (0, (), (), (), (1, 2)))
        self.raises(NothingToUndo, twin.undo)
        twin.apply(("drop", "day"))
        desk.apply(("drop", "goods"))
        self.same((list(twin), list(desk)), (["goods"], ["day"]))

    def test_log_is_of_what_was_passed(self):
        desk = day()
        self.same(desk.log[0][1], ("open", "day", ("who",)))
        self.assertEqual(desk.log, ((("scene", "day", HELD), ("open", "day", ("who",))), (("scene", "goods", STALL),)))
        self.assertIs(type(desk.log), tuple)
        for name in ("log", "watches"):
            with self.assertRaises(AttributeError):
                setattr(desk, name, ())


class Histories(Case):
    """Edits at any place, also refused ones, beside the same edits made in plain dicts."""

    def some_edit(self, chance, desk, bases):
        word = chance.choice(sorted(LENGTHS))
        name = chance.choice(("a", "b", "c") if chance.random() < 0.9 else ("d", "A", 5))
        if word == "scene":
            return word, name, chance.choice(bases)
        lines = desk.places[name].lines if name in desk.places else {"one": ("one", (), None)}
        table = chance.choice([*lines, "zz"] if chance.random() < 0.1 else list(lines))
        columns = lines.get(table, (0, ("a",), None))[1]
        row = tuple(chance.randrange(3) for _ in columns) + ((0,) if chance.random() < 0.05 else ())
        if word in ("put", "take"):
            rows = list(desk.places[name].rows.get(table, ())) if name in desk.places else ()
            row = chance.choice(rows) if word == "take" and rows else row
            return word, name, table, row, chance.choice((0, 1, 1, 2, 3, -1) if chance.random() < 0.2 else (0, 1, 1, 2))
        if word == "rows":
            return word, name, table, tuple(tuple(chance.randrange(3) for _ in columns) for _ in range(chance.randint(0, 3)))
        if word == "key":
            return word, name, table, chance.choice((None, *subsets(columns), tuple(columns)[::-1], ("f",)))
        known = sorted({column for line in lines.values() for column in line[1]})
        door = chance.choice(subsets(known) + [tuple(LETTERS)])
        return {"drop": (word, name), "open": (word, name, door), "shut": (word, name, door)}.get(word, (word, name, table))

    def test_histories(self):
        chance, refused, made = Random(120), 0, 0
        scenes = some_scenes(60, tables=4, columns=4, seed=120)
        bases = [some_base(scene, chance, most=3) for at, scene in enumerate(scenes) if at % 5 == 0 or is_quiet_book(scene)]
        for _ in range(60):
            desk, plain = Desk(), PlainDesk()
            for name in "ab":
                self.both(desk, plain, "apply", (("scene", name, chance.choice(bases)),))
            for _ in range(40):
                draw = chance.random()
                if draw < 0.7:
                    edits = tuple(self.some_edit(chance, plain, bases) for _ in range(chance.choice((1, 1, 1, 2, 3))))
                    done = self.both(desk, plain, "apply", edits)
                    refused += not done
                    made += done
                elif draw < 0.85:
                    self.both(desk, plain, chance.choice(("undo", "redo")), chance.randint(0, 3))
                elif draw < 0.9:
                    self.tried(desk, deepcopy(plain), chance, bases)
                else:
                    self.watch(desk, plain, chance)
                self.check(desk, plain)
        self.assertGreater(refused, 300)
        self.assertGreater(made, 300)

    def both(self, desk, plain, word, value):
        """Do the same at both; whether it was done."""
        try:
            plain.apply(value) if word == "apply" else getattr(plain, word)(value)
        except Exception as expected:
            call = (lambda: desk.apply_all(value)) if word == "apply" else (lambda: getattr(desk, word)(many=value))
            self.raises(type(expected), call)
            return False
        many = desk.apply_all(value) if word == "apply" else getattr(desk, word)(many=value)
        self.same(many, len(plain.done))
        return True

    def tried(self, desk, plain, chance, bases):
        """Do some of all this in a trial, at whose end there may be an error."""
        try:
            with desk.trial():
                for _ in range(3):
                    self.both(desk, plain, "apply", (self.some_edit(chance, plain, bases),))
                    self.both(desk, plain, chance.choice(("undo", "redo")), chance.randint(0, 2))
                    self.watch(desk, plain, chance)
                    self.check(desk, plain)
                if chance.random() < 0.5:
                    desk.apply(5)
        except InvalidEdit:
            pass

    def watch(self, desk, plain, chance):
        self.same(desk.news(), plain.news())
        doors = [(name, door) for name, place in plain.places.items() for door in sorted(place.doors)]
        if doors:
            name, door = chance.choice(doors)
            integers = tuple(chance.randrange(3) for _ in door)
            self.same(desk.watch(name, door, integers), len(plain.watches))
            plain.watch(name, door, integers)

    def check(self, desk, plain):
        self.same((tuple(desk), len(desk)), (tuple(sorted(plain.places)), len(plain.done)))
        self.assertEqual(desk.log, tuple(edits for edits, _ in plain.done))
        self.same(desk.watches, tuple(plain.watches))
        for name, place in plain.places.items():
            base = place.base()
            self.assertEqual(desk.base_of(name), base)
            self.same((desk.doors_of(name), desk.work(name)), (tuple(sorted(place.doors)), place.work))
            self.same(desk.total_at(name), slow_total(base))
            for door in sorted(place.doors)[:2]:
                self.same(desk.ask(name, door, (1,) * len(door)), plain.answer((name, door, (1,) * len(door))))
        self.assertEqual(desk, desk.twin())

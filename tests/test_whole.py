"""What the document promises of the whole program: points 0.1 to 0.7 and 0.24, over all functions and classes."""

import inspect
from importlib import import_module

from fewtouched.base.bases import Base
from fewtouched.base.matches import answers, matches
from fewtouched.base.scenes import Scene
from fewtouched.books.books import costs
from fewtouched.books.keeper import Keeper
from fewtouched.books.shifts import Shift
from fewtouched.desk.desk import Desk
from fewtouched.errors import (InvalidBase, InvalidNumber, InvalidOperation, InvalidRole, InvalidScene, InvalidView,
                               ParseError, UnknownName)
from fewtouched.strain.twins import twins
from fewtouched.text.shell import Shell
from fewtouched.views.closures import finds
from fewtouched.views.views import altered, entries
from tests.test_interface import CLASSES, FUNCTIONS, GENERATORS
from tests.values import (Case, DAY, EVERY, GOODS, NO_BASES, NO_NUMBERS, NO_SCENES, SHELVES, SHOP, no_columns, no_doors,
                          no_integers, no_role, no_table, no_tables, no_view)

DOOR = ("who",)
VIEW = (("order", "stock"), ("who",))
TWINS = twins(SHOP, "buyer")

# For each parameter: a right value for SHOP or DAY, wrong values, and the error.
PARAMETERS = {
    "scene": (SHOP, NO_SCENES, InvalidScene), "base": (DAY, NO_BASES, InvalidBase), "first": (DAY, NO_BASES, InvalidBase),
    "second": (Base(Scene(changing={"t": ()})), NO_BASES, InvalidBase), "table": ("stock", no_table(SHOP), UnknownName),
    "columns": (("who",), no_columns(SHOP), InvalidOperation), "tables": (("buyer",), no_tables(SHOP), InvalidOperation),
    "view": (VIEW, no_view(SHOP), InvalidView), "role": ("buyer", no_role(SHOP), InvalidRole),
    "door": (DOOR, no_columns(SHOP), InvalidRole), "doors": ((DOOR,), no_doors(SHOP), InvalidRole),
    "row": ((10,), no_integers(1), InvalidBase),
    "integers": ((1,), ["a", (), (1, 2), (None,), [1]], InvalidOperation), "many": (3, NO_NUMBERS, InvalidNumber),
    "bridge": (("order",), [(), "order", ["order"], ("zz",), 5, None], InvalidOperation),
    "twins": (TWINS, [(), TWINS[:2], list(TWINS), None], InvalidOperation), "text": ("x", [5, None, ["x"], ("x",)], ParseError),
    "step": (("hold", "stock"), [(), "hold", ["hold", "stock"], None], InvalidOperation),
    "piece": (("order", "stock"), [(), "order", ["order", "stock"], None], InvalidOperation), "value": (None, [], None),
}
# Functions of names and of texts check other things; the value of one has a form of its own.
OTHERS = ("fewtouched.base.names", "fewtouched.text.formats")


def parameters(line):
    """The names of the parameters of a function, those behind * with their names alone."""
    told = line.partition("(")[2][:-1]
    return [part.partition("=")[0] for part in told.split(", ") if part not in ("*", "")]


class FirstWrongArgument(Case):

    def test_all_functions(self):
        seen = 0
        for module, lines in FUNCTIONS.items():
            for line in lines if module not in OTHERS else ():
                name = line.partition("(")[0]
                function = getattr(import_module(module), name)
                names = [part for part in parameters(line) if part != "value"]
                by_name = line.partition("*, ")[2]
                for at, part in enumerate(names):
                    seen += self.check(function, names, at, by_name, line)
        self.assertGreater(seen, 100)

    def check(self, function, names, at, by_name, line):
        """That a wrong argument raises its error, whatever is wrong behind it."""
        part = names[at]
        _, wrong, error = PARAMETERS[part]
        nothing = "tables=None" in line and part == "tables"
        if part == "tables" and "together" in line:
            wrong = [value for value in wrong if value != ()]
        for value in wrong:
            if nothing and value is None:
                continue
            behind = [5] * (len(names) - at - 1)
            values = [PARAMETERS[name][0] for name in names[:at]] + [value] + behind
            more = {name: told for name, told in zip(names, values) if name in by_name}
            plain = [told for name, told in zip(names, values) if name not in by_name]
            if "value)" in line:
                plain.append(5)
            with self.subTest(line, part=part, value=value):
                if function.__name__ in GENERATORS:
                    self.lazily(error, function, *plain, **more)
                else:
                    caught = self.raises(error, function, *plain, **more)
                    kept = {UnknownName: "name", InvalidNumber: "value"}.get(error)
                    if kept:
                        self.assertIs(getattr(caught, kept), value)
        return 1

    def test_texts(self):
        for line in FUNCTIONS["fewtouched.text.formats"]:
            function = getattr(import_module("fewtouched.text.formats"), line.partition("(")[0])
            names = parameters(line)
            for at, part in enumerate(names):
                for value in PARAMETERS[part][1]:
                    behind = [5] * (len(names) - at - 1)
                    self.raises(PARAMETERS[part][2], function, *[PARAMETERS[name][0] for name in names[:at]], value, *behind)

    def test_judges_take_every_value(self):
        for module, lines in FUNCTIONS.items():
            for line in lines:
                names = parameters(line)
                if line.startswith("is_") and names[-1] == "value":
                    function = getattr(import_module(module), line.partition("(")[0])
                    right = [PARAMETERS[name][0] for name in names[:-1]]
                    for value in [*EVERY, *[(one, other) for one in EVERY[::9] for other in EVERY[::7]],
                                  *[(one, other, one) for one in EVERY[::17] for other in EVERY[::13]]]:
                        self.assertIsInstance(function(*right, value), bool)


class States(Case):

    def test_what_is_returned_gives_no_access(self):
        keeper, desk, shell = Keeper(SHELVES), Desk(), Shell()
        desk.apply(("scene", "a", SHELVES))
        view = keeper.views[0]
        calls = (lambda: DAY.rows("order"), lambda: keeper.entries(view), lambda: keeper.base.rows("order"),
                 lambda: answers(DAY, DOOR), lambda: entries(DAY, VIEW), lambda: costs(GOODS), lambda: finds(DAY, "buyer", (1,)),
                 lambda: altered(DAY, VIEW, "stock", (10,)), lambda: desk.base_of("a").rows("place"),
                 lambda: desk.keeper("a").entries(view))
        for call in calls:
            told = call()
            before = dict(told)
            told.clear()
            told["x"] = 5
            self.told(call(), before)
        for value in (DAY.scene.lines, DAY.scene.tables, keeper.views, keeper.doors, keeper.last, desk.log, desk.watches, shell.log):
            self.assertIs(type(value), tuple)

    def test_what_is_passed_gives_no_access(self):
        lines = {"buyer": ("who",), "order": ("part", "who")}
        scene = Scene(changing=lines)
        rows = {"buyer": ((1,),)}
        base = Base.of(scene, rows)
        lines["stock"], rows["buyer"] = ("part",), ()
        self.same((scene.tables, base.size), (("buyer", "order"), 1))
        desk = Desk()
        desk.apply(("scene", "a", SHELVES))
        keeper, twin, shell = desk.keeper("a"), desk.twin(), Shell(desk)
        keeper.put("stock", (7,))
        twin.apply(("drop", "a"))
        shell.run("drop a")
        self.same((desk.total_at("a"), list(desk) == ["a"]), (1, True))

    def test_what_is_iterated_over(self):
        for value in (DAY, Keeper(SHELVES), Shift(SHELVES, (("order", "stock"),)), Shell(), Desk().trial()):
            self.assertRaises(TypeError, iter, value)
        self.assertEqual((list(SHOP), list(Desk())), (["buyer", "order", "stock"], []))

    def test_equal_calls(self):
        keeper, desk = Keeper(SHELVES), Desk()
        desk.apply(("scene", "a", SHELVES))
        for _ in range(2):
            self.same((keeper.total, len(keeper), str(keeper), keeper.doors), (1, 5, "keeper of 4 views, 5 entries", ()))
            self.assertEqual(list(matches(DAY, ("order",))), list(matches(DAY, ("order",))))
            self.same((desk.news(), desk.work("a"), len(desk)), ((), (0, 0), 1))

    def test_texts_of_objects(self):
        shift = Shift(DAY, (("buyer", "order"), ("stock",)))
        shift.put("stock", (5,))
        self.assertEqual([str(SHOP), str(DAY), str(Keeper(SHELVES)), str(shift), str(Desk()), str(Shell())], [
            "scene of 3 tables, 2 columns", "base of 6 rows in 3 tables", "keeper of 4 views, 5 entries",
            "shift of 2 phases, 1 waiting", "desk of 0 scenes", "shell with 0 scenes"])

    def test_unlike_is_the_opposite_of_equal(self):
        made = [SHOP, SHOP.held(), DAY, DAY + Base(SHOP), Keeper(SHELVES), Keeper(SHELVES, ()), Desk(), Desk(), Shell(), Shell(Desk())]
        for one in made:
            for other in [*made, *EVERY]:
                self.assertIs(type(one == other), bool)
                self.assertIs(one != other, not one == other)

    def test_class_methods(self):
        self.assertEqual(Base.of(SHOP, {"buyer": ((1,),)}), Base(SHOP, buyer=((1,),)))
        self.assertEqual(Keeper.of(SHELVES, ((), ())), Keeper(SHELVES, (), ()))
        self.assertEqual(Shell.of_log(()), Shell())
        for kind, (_, _, methods, class_methods, _) in CLASSES.items():
            for line in class_methods:
                self.assertTrue(inspect.ismethod(getattr(kind, line.partition("(")[0])))

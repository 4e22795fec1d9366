"""The interface: names, parameters, and where each function, class and method is defined."""

import inspect
from importlib import import_module

from fewtouched import errors
from fewtouched.base import scenes
from fewtouched.base.bases import Base
from fewtouched.base.scenes import Scene
from fewtouched.books.keeper import Keeper
from fewtouched.books.shifts import Shift
from fewtouched.desk.desk import Desk
from fewtouched.text.shell import Shell
from tests.values import Case, GOODS, SHOP

PLAIN, REST, ONLY, MORE = (inspect.Parameter.POSITIONAL_OR_KEYWORD, inspect.Parameter.VAR_POSITIONAL,
                           inspect.Parameter.KEYWORD_ONLY, inspect.Parameter.VAR_KEYWORD)

# Each function of each module, with its parameters as the interface tells them; those behind * by keyword.
FUNCTIONS = {
    "fewtouched.base.names": ("is_name(value)", "is_columns(value)", "project(columns, integers, some)",
                              "joined(columns, integers, others, more)"),
    "fewtouched.base.matches": ("matches(base, tables)", "total_of(base)", "answer(base, door, integers)",
                                "answers(base, door)", "difference(base, table, row)"),
    "fewtouched.views.closures": ("closure(scene, columns, tables)", "reached(scene, columns, tables)",
                                  "key_steps(scene, columns, tables)", "names_of(scene, role)",
                                  "finds(base, role, integers, *, tables=None)"),
    "fewtouched.views.views": ("is_view(scene, value)", "all_views(scene)", "entry(base, view, integers)",
                               "entries(base, view)", "altered(base, view, table, row)"),
    "fewtouched.views.quiet": ("is_quiet(scene, view)", "loud_by(scene, view)", "quiet_views(scene)",
                               "loud_base(scene, view, table, many)", "is_loud_base(scene, view, table, many, value)"),
    "fewtouched.strain.bridges": ("bridge(scene, role, table)", "bridges(scene, role, table)",
                                  "is_bridge(scene, role, table, value)", "strains(scene)",
                                  "strained_tables(scene, role)", "is_served(scene, role)"),
    "fewtouched.books.pieces": ("pieces(scene, role, *, tables=None)",
                                "closed_piece(scene, role, piece, *, tables=None)",
                                "piece_views(scene, role, *, tables=None)",
                                "number_by(base, role, integers, *, tables=None)",
                                "factors(base, role, integers, *, tables=None)"),
    "fewtouched.books.books": ("book(scene, doors=())", "is_book(scene, doors, value)", "loud_views(scene, doors=())",
                               "is_quiet_book(scene, doors=())", "first_strained(scene, doors=())",
                               "costs(scene, doors=())", "looked_views(scene, role, doors=())",
                               "followed(scene, doors=())"),
    "fewtouched.strain.twins": ("number_of(base, role, integers)", "twins(scene, role)",
                                "twins_along(scene, role, table, bridge)", "is_twins(scene, role, value)",
                                "telling_views(scene, role, value)"),
    "fewtouched.strain.served": ("served_doors(scene)", "together(scene, tables, *, doors=())",
                                 "greatest_together(scene, *, doors=())", "least_still(scene, *, doors=())",
                                 "fewest_phases(scene)", "is_phases(scene, value)"),
    "fewtouched.change.operations": ("possible_steps(scene, doors)", "behind(scene, doors, step)",
                                     "gone(scene, doors, step)", "come(scene, doors, step)", "mends(scene, doors)",
                                     "heal(scene, doors)", "is_heal(scene, doors, value)", "beside(first, second)"),
    "fewtouched.text.formats": ("format_scene(scene)", "format_base(base)", "format_view(scene, view)",
                                "format_role(scene, role)", "format_bridge(scene, bridge)",
                                "format_twins(scene, twins)", "parse_scene(text)", "parse_base(scene, text)",
                                "parse_view(scene, text)", "parse_role(scene, text)", "parse_bridge(scene, text)",
                                "parse_twins(scene, text)"),
}
GENERATORS = ("matches", "all_views", "quiet_views", "bridges", "followed", "telling_views", "served_doors",
              "possible_steps", "mends", "follow")
CONSTANTS = {"fewtouched.base.scenes": {"MAX_TABLES": 6, "MAX_COLUMNS": 6, "MOST_COLUMNS": 4},
             "fewtouched.base.bases": {"MAX_ROWS": 400}, "fewtouched.base.matches": {"MAX_ANSWERS": 10000},
             "fewtouched.views.views": {"MAX_ENTRIES": 10000}}

# Each class: its module, properties, methods with their parameters, class methods, and operators.
CLASSES = {
    Scene: ("fewtouched.base.scenes", ("tables", "changing", "fixed", "columns", "lines"),
            ("columns_of(table)", "key_of(table)", "held(*tables)", "freed(*tables)",
             "with_table(table, columns, *, key='changing')", "without(*tables)", "with_key(table, key)",
             "renamed(kind, names)"), ("of(lines)",),
            ("__init__", "__or__", "__contains__", "__len__", "__iter__", "__eq__", "__str__")),
    Base: ("fewtouched.base.bases", ("scene", "size"),
           ("rows(table)", "times(table, row)", "put(table, row, *, many=1)", "take(table, row, *, many=1)",
            "with_rows(table, rows)", "on(scene)"), ("of(scene, rows)",),
           ("__init__", "__add__", "__len__", "__eq__", "__str__")),
    Keeper: ("fewtouched.books.keeper", ("base", "doors", "views", "total", "last"),
             ("put(table, row, *, many=1)", "take(table, row, *, many=1)", "follow(changes)", "ask(door, integers)",
              "entries(view)", "admit(*doors)", "shut(*doors)", "twin()"), ("of(base, doors)",),
             ("__init__", "__call__", "__len__", "__eq__", "__str__")),
    Shift: ("fewtouched.books.shifts", ("base", "phases", "phase", "total", "waiting", "built", "last"),
            ("put(table, row, *, many=1)", "take(table, row, *, many=1)", "turn(*, many=1)", "settle()", "whole()"), (),
            ("__init__", "__len__", "__str__")),
    Desk: ("fewtouched.desk.desk", ("log", "watches"),
           ("apply(*edits)", "apply_all(edits)", "undo(*, many=1)", "redo(*, many=1)", "base_of(name)", "doors_of(name)",
            "total_at(name)", "work(name)", "keeper(name)", "ask(name, door, integers)", "watch(name, door, integers)",
            "news()", "trial()", "during(call)", "twin()"), (),
           ("__init__", "__iter__", "__contains__", "__len__", "__eq__", "__str__")),
    Shell: ("fewtouched.text.shell", ("log",),
            ("run(text)", "run_all(texts)", "tried(text)", "desk_twin()"), ("of_log(texts)",),
            ("__init__", "__len__", "__eq__", "__str__")),
}


def told(function):
    """The name and the parameters, without the object, as the interface tells them."""
    found, only = [], False
    for part in inspect.signature(function).parameters.values():
        if part.name in ("self", "cls"):
            continue
        if part.kind == ONLY and not only:
            found.append("*")
        only = only or part.kind in (ONLY, REST)
        star = {REST: "*", MORE: "**"}.get(part.kind, "")
        default = "" if part.default is part.empty else f"={part.default!r}"
        found.append(star + part.name + default)
    return f"{function.__name__}({', '.join(found)})"


class Interface(Case):

    def test_functions(self):
        for module, lines in FUNCTIONS.items():
            for line in lines:
                with self.subTest(module, line=line):
                    name = line.partition("(")[0]
                    function = getattr(import_module(module), name)
                    self.assertTrue(inspect.isfunction(function))
                    self.assertEqual(function.__module__, module)
                    self.assertEqual(told(function), line)
                    self.assertEqual(inspect.isgeneratorfunction(function), name in GENERATORS)

    def test_constants(self):
        for module, constants in CONSTANTS.items():
            for name, value in constants.items():
                self.same(getattr(import_module(module), name), value)

    def test_classes(self):
        for kind, (module, properties, methods, class_methods, operators) in CLASSES.items():
            with self.subTest(kind):
                self.assertTrue(inspect.isclass(kind))
                self.assertEqual(kind.__module__, module)
                for name in properties:
                    self.assertIsInstance(vars(kind)[name], property)
                for line in methods:
                    function = vars(kind)[line.partition("(")[0]]
                    self.assertTrue(inspect.isfunction(function))
                    self.assertEqual(told(function), line)
                    self.assertEqual(inspect.isgeneratorfunction(function), line.partition("(")[0] in GENERATORS)
                for line in class_methods:
                    self.assertIsInstance(vars(kind)[line.partition("(")[0]], classmethod)
                    self.assertEqual(told(getattr(kind, line.partition("(")[0])), line)
                for name in operators:
                    self.assertTrue(inspect.isfunction(vars(kind)[name]), name)

    def test_made(self):
        self.assertEqual(told(Scene), "Scene(*, changing=None, fixed=None, keyed=None)")
        self.assertEqual(told(Base), "Base(scene, **rows)")
        self.assertEqual(told(Keeper), "Keeper(base, *doors)")
        self.assertEqual(told(Shift), "Shift(base, phases)")
        self.assertEqual(told(Desk), "Desk()")
        self.assertEqual(told(Shell), "Shell(desk=None)")
        self.assertEqual(scenes.Scene, Scene)

    def test_arguments_by_keyword_come_in_any_order(self):
        one = Scene(keyed={"f": ()}, fixed={"f": ("a",)}, changing={"t": ("a",)})
        other = Scene(changing={"t": ("a",)}, keyed={"f": ()}, fixed={"f": ("a",)})
        self.assertEqual(one.lines, other.lines)
        self.assertRaises(TypeError, Scene, {"t": ("a",)})
        self.assertRaises(TypeError, SHOP.with_table, "t", ("a",), "changing")
        self.assertRaises(TypeError, Base(SHOP).put, "buyer", (1,), 1)
        self.assertRaises(TypeError, Keeper(Base(GOODS)).put, "stock", (1,), 1)
        self.assertRaises(TypeError, Shift(Base(GOODS), (("order", "stock"),)).take, "stock", (1,), 0)
        self.assertRaises(TypeError, Desk().undo, 0)
        self.assertEqual(Base(SHOP, stock=((1,),), buyer=((2,),)), Base(SHOP, buyer=((2,),), stock=((1,),)))

    def test_equal_calls_return_equal_results(self):
        for _ in range(3):
            self.same(SHOP.held("stock").lines, SHOP.held("stock").lines)
            self.same(SHOP.columns_of("order"), ("part", "who"))
            self.assertEqual(list(SHOP), list(SHOP))

    def test_errors(self):
        classes = [name for name, value in vars(errors).items() if inspect.isclass(value)]
        self.assertEqual(sorted(classes), sorted([
            "TouchError", "InvalidScene", "InvalidBase", "InvalidView", "InvalidRole", "InvalidOperation",
            "InvalidEdit", "ParseError", "InvalidCommand", "InvalidNumber", "UnknownName", "TooMany", "NotThere",
            "Strained", "NothingToUndo"]))

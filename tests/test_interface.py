"""The interface: names, parameters, and where each function, class and method is defined."""

import inspect

from fewtouched import errors
from fewtouched.base import names, scenes
from fewtouched.base.scenes import Scene
from tests.values import Case, SHOP

PLAIN, REST, ONLY = (inspect.Parameter.POSITIONAL_OR_KEYWORD, inspect.Parameter.VAR_POSITIONAL,
                     inspect.Parameter.KEYWORD_ONLY)
FUNCTIONS = {"is_name": ["value"], "is_columns": ["value"], "project": ["columns", "integers", "some"],
             "joined": ["columns", "integers", "others", "more"]}
PROPERTIES = ("tables", "changing", "fixed", "columns", "lines")
METHODS = {"columns_of": ["table"], "key_of": ["table"], "held": ["*tables"], "freed": ["*tables"],
           "with_table": ["table", "columns", "key='changing'"], "without": ["*tables"], "with_key": ["table", "key"],
           "renamed": ["kind", "names"]}
OPERATORS = ("__init__", "__or__", "__contains__", "__len__", "__iter__", "__eq__", "__str__")


def told(function):
    """The parameters, without the object, as the interface tells them."""
    found = []
    for part in inspect.signature(function).parameters.values():
        star = "*" if part.kind == REST else ""
        default = "" if part.default is part.empty else f"={part.default!r}"
        found.append(star + part.name + default)
    return [part for part in found if part != "self"]


class Interface(Case):

    def test_names(self):
        for name, parameters in FUNCTIONS.items():
            with self.subTest(name):
                function = getattr(names, name)
                self.assertTrue(inspect.isfunction(function))
                self.assertEqual(function.__module__, "fewtouched.base.names")
                self.assertEqual(told(function), parameters)
                kinds = {part.kind for part in inspect.signature(function).parameters.values()}
                self.assertEqual(kinds, {PLAIN})

    def test_scene(self):
        self.assertTrue(inspect.isclass(Scene))
        self.assertEqual(Scene.__module__, "fewtouched.base.scenes")
        self.assertEqual(told(Scene), ["changing=None", "fixed=None", "keyed=None"])
        kinds = [part.kind for part in inspect.signature(Scene).parameters.values()]
        self.assertEqual(kinds, [ONLY, ONLY, ONLY])
        for name in ("MAX_TABLES", "MAX_COLUMNS", "MOST_COLUMNS"):
            self.assertIs(type(getattr(scenes, name)), int)

    def test_defined_in_the_class_itself(self):
        for name in PROPERTIES:
            self.assertIsInstance(vars(Scene)[name], property)
        for name in (*METHODS, *OPERATORS):
            self.assertTrue(inspect.isfunction(vars(Scene)[name]), name)
        self.assertIsInstance(vars(Scene)["of"], classmethod)

    def test_methods(self):
        for name, parameters in METHODS.items():
            with self.subTest(name):
                self.assertEqual(told(getattr(Scene, name)), parameters)
        self.assertEqual(told(Scene.of), ["lines"])
        self.assertEqual(inspect.signature(Scene.with_table).parameters["key"].kind, ONLY)

    def test_arguments_by_keyword_come_in_any_order(self):
        one = Scene(keyed={"f": ()}, fixed={"f": ("a",)}, changing={"t": ("a",)})
        other = Scene(changing={"t": ("a",)}, keyed={"f": ()}, fixed={"f": ("a",)})
        self.assertEqual(one.lines, other.lines)
        self.assertRaises(TypeError, Scene, {"t": ("a",)})
        self.assertRaises(TypeError, SHOP.with_table, "t", ("a",), "changing")

    def test_equal_calls_return_equal_results(self):
        for _ in range(3):
            self.same(SHOP.held("stock").lines, SHOP.held("stock").lines)
            self.same(SHOP.columns_of("order"), ("part", "who"))
            self.assertEqual(list(SHOP), list(SHOP))

    def test_errors(self):
        classes = [name for name, value in vars(errors).items() if inspect.isclass(value)]
        self.assertEqual(sorted(classes), sorted([
            "TouchError", "InvalidScene", "InvalidBase", "InvalidView", "InvalidRole", "InvalidOperation",
            "InvalidEdit", "ParseError", "InvalidCommand", "InvalidNumber", "UnknownName", "TooMany", "NotThere",
            "Strained", "NothingToUndo"]))

"""Stage 18: a shell."""

from random import Random

from fewtouched.base.bases import Base
from fewtouched.base.scenes import Scene
from fewtouched.books.books import book, first_strained
from fewtouched.desk.desk import Desk
from fewtouched.errors import (InvalidBase, InvalidCommand, InvalidOperation, InvalidRole, InvalidScene, NothingToUndo,
                               NotThere, ParseError, Strained, TooMany, UnknownName)
from fewtouched.strain.bridges import is_served
from fewtouched.strain.served import fewest_phases
from fewtouched.strain.twins import is_twins
from fewtouched.text.formats import (format_base, format_role, format_scene, format_view, parse_base, parse_bridge, parse_role,
                                     parse_scene, parse_twins)
from fewtouched.text.shell import Shell
from tests.oracle import LETTERS, roles_of, some_base, some_scenes, subsets
from tests.values import Case, DAY, EVERY, FAR, GOODS, LONG, SHOP

STALL = Base(GOODS, order=((10, 1), (10, 1), (20, 2)), place=((10, 7), (20, 8)), stock=((7,),))
SCENE = "scene day\n" + format_scene(GOODS)
BASE = "base day\n" + format_base(STALL)


def stall():
    """A shell with one scene and its rows, and two open doors."""
    return Shell.of_log((SCENE, BASE, "open day shelf", "open day"))


class Document(Case):

    def test_examples(self):
        shell = Shell()
        self.assertEqual(
            shell.run_all(("scene day\n" + format_scene(GOODS),
                           "base day\norder 10 1 * 2\norder 20 2\nplace 10 7\nplace 20 8\nstock 7", "put day stock 8",
                           "open day shelf")),
            ("0", "2", "3", "3"))
        self.assertEqual(
            [shell.run("ask day shelf = 8"), shell.run("undo 2"), shell.run("total day"), shell.tried("free day place"),
             shell.tried("free day")],
            ["1", "2", "2", "! Strained", "! InvalidCommand"])
        self.assertEqual(
            [shell.run("judge\n" + format_scene(SHOP)), shell.run("phases\n" + format_scene(SHOP)),
             shell.run("book day").split("\n")[0], shell.run("doors day")],
            ["buyer stock: order", "buyer / order stock", "order place | shelf", ""])


class Editing(Case):

    def test_each(self):
        shell = stall()
        for text, answer in (
                ("put day stock 8 * 3", "5"), ("take day stock 8", "4"), ("put day order 20 5", "6"), ("take day order 10 1 * 2", "4"),
                ("hold day order", "4"), ("free day order", "4"), ("hold day order", "4"), ("unkey day place", "4"),
                ("key day place shelf part", "4"), ("unkey day place", "4"), ("key day place part", "4"), ("shut day", "4"),
                ("open day part", "4"), ("open day order", "! InvalidRole"), ("shut day shelf", "4"),
                ("base day\norder 10 1", "0"), ("base day", "0"), ("base day\n" + format_base(STALL), "2")):
            self.same(shell.tried(text), answer)
        desk = shell.desk_twin()
        self.assertEqual(desk.base_of("day"), STALL.on(GOODS.held("order")))
        self.same((desk.doors_of("day"), desk.work("day")), ((("part",),), (8, 8)))

    def test_a_scene_has_no_rows(self):
        shell = Shell()
        self.same(shell.run("scene a\nchanging t"), "0")
        self.assertEqual(shell.desk_twin().base_of("a"), Base(Scene(changing={"t": ()})))
        self.same((shell.run("put a t"), shell.run("put a t * 4"), shell.run("rows a")), ("1", "5", "t * 5"))
        self.same(shell.run("names"), "a")

    def test_rows_in_place_of_all_others(self):
        scene = Scene(changing={"a": ("x",), "b": ("x",)}, fixed={"k": ("x", "y")}, keyed={"k": ("x",)})
        shell = Shell.of_log(("scene s\n" + format_scene(scene),))
        few, many = "\n".join(f"a {at}" for at in range(100, 400)), "\n".join(f"b {at}" for at in range(300))
        for text in (few, "a 1\n" + many, few + "\nb 5\nk 300 1", many, "k 3 3", "", few + "\nb 305", "b 305\nk 1 7"):
            shell.run("base s\n" + text)
            self.same(shell.run("rows s"), text)
        self.same((len(shell), shell.run("undo 1"), shell.run("total s")), (9, "8", "0"))
        self.same((shell.run("undo 1"), shell.run("rows s")), ("7", ""))
        self.same((shell.run("base s"), shell.run("base s\n"), shell.run("rows s")), ("0", "0", ""))
        self.same(shell.run("undo 2"), "7")

    def test_rows_that_are_there_often(self):
        shell = stall()
        self.same(shell.run("base day\norder 10 1 * 1000\nplace 10 7\nstock 7 * 1000"), "1000000")
        before = shell.desk_twin()
        for text in ("base day\nstock 7 * 1001", "base day\norder 10 1 * 1001\nplace 10 7\nstock 7", f"base day\nstock 7 * {LONG}"):
            self.raises_with(TooMany, "limit", 1000, shell.run, text)
        self.assertEqual(shell.desk_twin(), before)
        self.same(shell.run(f"put day stock 7 * {LONG}"), str(1000 * (LONG + 1000)))
        self.same(shell.run("rows day").split("\n")[-1], f"stock 7 * {LONG + 1000}")

    def test_very_many_digits(self):
        shell = Shell.of_log(("scene a\nchanging t\nchanging u", "open a"))
        digits = "9" * 5000
        shell.run(f"put a t * {digits}")
        self.same(shell.run(f"put a u * {digits}"), "9" * 4999 + "8" + "0" * 4999 + "1")
        self.same(shell.run("total a"), shell.run("ask a ="))
        self.same(shell.run("rows a"), f"t * {digits}\nu * {digits}")

    def test_groups(self):
        shell = stall()
        shell.run("scene other\nchanging t a")
        self.same((shell.run("drop other"), shell.run("names"), shell.run("undo 0")), ("6", "day", "6"))
        self.same((shell.run("undo 2"), shell.run("redo 1"), shell.run("names")), ("4", "5", "day other"))
        self.raises_with(NothingToUndo, "many", 2, shell.run, "redo 2")
        self.raises_with(NothingToUndo, "many", LONG, shell.run, f"undo {LONG}")
        self.same((shell.run("undo 5"), shell.run("names"), shell.run("redo 3"), shell.run("total day")), ("0", "", "3", "2"))


class Asked(Case):

    def test_each(self):
        shell = stall()
        desk = shell.desk_twin()
        self.same((shell.run("show day"), shell.run("rows day")), (format_scene(GOODS), format_base(STALL)))
        self.same((shell.run("doors day"), shell.run("total day"), shell.run("work day")), ("door\ndoor shelf", "2", "0 0"))
        self.same(shell.run("book day"), "\n".join(format_view(GOODS, view) for view in book(GOODS, desk.doors_of("day"))))
        self.same((shell.run("ask day shelf = 7"), shell.run("ask day ="), shell.run("ask day shelf = -7")), ("2", "2", "0"))
        shell.run("put day stock 8")
        self.same((shell.run("work day"), shell.run("names")), ("1 2", "day"))
        self.same(shell.run_all(("base day", "rows day", "total day", "ask day =")), ("0", "", "0", "0"))
        self.same((Shell().run("names"), len(shell)), ("", 6))

    def test_forty_digits(self):
        shell = stall()
        self.same((shell.run(f"ask day shelf = {LONG}"), shell.run(f"ask day shelf = {-LONG}")), ("0", "0"))
        for text in (f"ask day shelf = {LONG + 1}", f"ask day shelf = {-LONG - 1}", f"undo {LONG + 1}", f"redo {LONG + 1}"):
            self.raises(InvalidCommand, shell.run, text)
        self.raises_with(NothingToUndo, "many", LONG, shell.run, f"redo {LONG}")

    def test_judge(self):
        for scene in (SHOP, GOODS, FAR, GOODS.held("order", "stock"), *some_scenes(40, seed=140)):
            told = first_strained(scene)
            answer = Shell().run("judge\n" + format_scene(scene))
            if told is None:
                self.same(answer, "quiet")
            else:
                tables, path = answer.split(": ")
                self.assertEqual((*tables.split(" "), parse_bridge(scene, path)), told)
        self.same(Shell().run("judge\n" + format_scene(FAR)), "a b: s - u")

    def test_phases(self):
        for scene in (SHOP, GOODS, FAR, GOODS.held("order", "stock"), *some_scenes(40, seed=141)):
            answer = Shell().run("phases\n" + format_scene(scene))
            self.assertEqual(tuple(tuple(part.split(" ")) for part in answer.split(" / ") if part), fewest_phases(scene))
        self.same(Shell().run("phases\nfixed t a"), "")

    def test_twins(self):
        for scene in (SHOP, GOODS, FAR, *some_scenes(25, tables=4, seed=142)):
            for role in roles_of(scene):
                answer = Shell().run(f"twins {format_role(scene, role)}\n{format_scene(scene)}")
                if is_served(scene, role):
                    self.same(answer, "none")
                else:
                    self.assertTrue(is_twins(scene, role, parse_twins(scene, answer)))

    def test_scenes_and_roles_that_are_none(self):
        shell = stall()
        good = format_scene(SHOP)
        for text in ("", good + "\n", "changing", "fixed t | a", "stock 1"):
            for head in ("judge", "phases", "twins table order", "twins x", "scene new", "scene day"):
                self.raises(ParseError, shell.run, f"{head}\n{text}")
        for role in ("order", "table place", "door shelf", "door who part", " ", "table order ", "table  order", "x" * 50):
            self.raises(ParseError, shell.run, f"twins {role}\n{good}")
        self.raises(ParseError, shell.run, "twins table order\n" + format_scene(GOODS.held("order")))


class WrongCommands(Case):

    FORMS = ("put day stock 8", "take day stock 7", "hold day order", "free day order", "key day place shelf part", "unkey day place",
             "open day shelf", "shut day shelf", "drop day", "undo 1", "redo 0", "names", "show day", "rows day", "book day",
             "doors day", "total day", "ask day shelf = 7", "work day")

    def test_near_forms(self):
        for text in self.FORMS:
            good = stall()
            self.assertNotIn("InvalidCommand", good.tried(text))
            words = text.split(" ")
            wrong = [text + "\n", text + "\nmore", " " + text, text.replace(" ", "  ", 1) if " " in text else text + "  ", text.upper(),
                     text.replace(" ", "\t"), text.replace(" ", "\n"), text[1:]]
            wrong += [words[0]] if len(words) > 1 else [text + " day"]
            names = ("Day", "abcdefghi", "day1", "") + (() if words[0] in ("undo", "redo") else ("1",))
            wrong += [" ".join((words[0], name, *words[2:])) for name in names if len(words) > 1]
            if words[0] not in ("put", "take"):
                wrong += [text + " ", text + " 7x", text + " X"]
            for other in wrong:
                if other not in self.FORMS:
                    self.raises(InvalidCommand, good.run, other)

    def test_no_commands(self):
        shell = stall()
        for value in [*EVERY, "help", "total", "names day", "scene day", "scene\nchanging t", "scene a b\nchanging t", "base", "base\n",
                      "base day stock\nstock 7", "judge", "phases", "judge x\nchanging t", "twins\nchanging t", "twins \nchanging t",
                      "twins table order", "phases order\nchanging t", "put day", "put day ", "take day ", "put", "hold day", "hold day order stock",
                      "free day Order", "key day", "unkey day place part", "open", "open day Who", "open day who 1", "undo", "undo ", "undo -1",
                      "undo 01", "undo +1", "undo 1 1", "undo x", "undo -0", "redo 1.0", "drop", "drop day goods", "ask day", "ask day shelf 7",
                      "ask day shelf=7", "ask day shelf = x", "ask day shelf = 07", "ask day = shelf = 7", "ask day shelf == 7", "ask = 7",
                      "ask day shelf = ", "ask day shelf =  7", "work", "work day day", "names\n", "\nnames", ""]:
            self.raises(InvalidCommand, shell.run, value)
            self.same(shell.tried(value), "! InvalidCommand")
        self.same(len(shell), 4)

    def test_unknown_names(self):
        shell = stall()
        for text in ("put zz stock 8", "take zz x", "hold zz zz", "free zz order", "key zz place part", "unkey zz place", "open zz shelf",
                     "shut zz zz", "drop zz", "show zz", "rows zz", "book zz", "doors zz", "total zz", "ask zz shelf = 7", "ask zz =",
                     "work zz", "base zz", "base zz\nnothing", "base zz\nstock 7 * 2000"):
            self.raises_with(UnknownName, "name", "zz", shell.run, text)
            self.same(shell.tried(text), "! UnknownName")
        self.raises_with(UnknownName, "name", "day", Shell().run, "total day")

    def test_rows_that_are_none(self):
        shell = stall()
        for row in ("stock", "stock 7 8", "zz 7", " ", " stock 7", "stock 7 ", "stock 07", "stock 7 * 1", "stock 7 * 0", "place 10 7 * 2",
                    "7", "order 10 a"):
            self.raises(ParseError, shell.run, f"put day {row}")
            self.raises(ParseError, shell.run, f"take day {row}")
        for text in (" ", "\n", "stock 7\n", "stock 8\nstock 7", "zz", "stock 7 * 1", "place 10 7\nplace 10 8"):
            self.raises(ParseError, shell.run, f"base day\n{text}")
        self.same(shell.run("rows day"), format_base(STALL))

    def test_errors_of_edits(self):
        shell = stall()
        for text, error in (
                ("scene day\nchanging t", InvalidOperation), ("scene new\n" + format_scene(SHOP), Strained), ("put day place 10 7", InvalidOperation),
                ("take day place 10 7", InvalidOperation), ("take day stock 9", NotThere), ("take day stock 7 * 2", NotThere),
                ("hold day zz", UnknownName), ("free day zz", UnknownName), ("free day place", Strained), ("key day zz", UnknownName),
                ("key day place", InvalidOperation), ("key day place who", InvalidScene), ("key day place part part", InvalidScene),
                ("unkey day order", InvalidOperation), ("unkey day place", Strained), ("open day who", Strained), ("open day zz", InvalidRole),
                ("open day who part", InvalidRole), ("shut day zz", InvalidRole), ("shut day part", InvalidOperation),
                ("ask day zz = 1", InvalidRole), ("ask day part = 1", InvalidOperation), ("ask day shelf = 1 2", InvalidOperation),
                ("ask day shelf shelf = 1 1", InvalidRole), ("undo 5", NothingToUndo), ("redo 1", NothingToUndo)):
            before = shell.desk_twin()
            self.raises(error, shell.run, text)
            self.same(shell.tried(text), "! " + error.__name__)
            self.assertEqual(shell.desk_twin(), before)
        for text in ("hold day order", "unkey day place", "base day\nplace 10 7\nplace 10 8"):
            shell.run(text)
        self.raises(InvalidBase, shell.run, "key day place part")
        self.same(shell.tried("key day place"), "! InvalidBase")
        self.raises_with(UnknownName, "name", "zz", shell.run, "unkey day zz")

    def test_too_many(self):
        shell = Shell.of_log(("scene a\nchanging t x",))
        shell.run("base a\n" + "\n".join(f"t {at}" for at in range(400)))
        self.raises_with(TooMany, "limit", 400, shell.run, "put a t 400")
        self.raises(ParseError, shell.run, "base a\n" + "\n".join(f"t {at}" for at in range(401)))
        self.same(shell.tried("put a t 400"), "! TooMany")
        wide = Scene(changing={"m": ("x", "y")}, fixed={"f": ("x", "z"), "g": ("y", "z")})
        shell.run("scene b\n" + format_scene(wide))
        rows = [f"{table} {at} 0" for table in "fg" for at in range(101)]
        self.raises_with(TooMany, "limit", 10000, shell.run, "base b\n" + "\n".join(rows))
        self.same(shell.run("rows b"), "")
        rows = [f"{table} {at} 0" for table in "fg" for at in range(100)]
        self.same((shell.run("base b\n" + "\n".join(rows)), shell.run("rows b")), ("0", "\n".join(rows)))


class Runs(Case):

    def test_run_all(self):
        shell = Shell()
        self.same(shell.run_all(()), ())
        self.same(shell.run_all((SCENE, "names", BASE)), ("0", "day", "2"))
        self.raises(NotThere, shell.run_all, ("put day stock 8", "take day stock 9", "put day stock 8"))
        self.same((shell.run("total day"), len(shell)), ("3", 3))
        for value in EVERY:
            if type(value) is not tuple:
                self.raises(InvalidOperation, shell.run_all, value)
                self.raises(InvalidOperation, Shell.of_log, value)
            else:
                self.raises(InvalidCommand, shell.run_all, (value,))
        self.raises(InvalidCommand, shell.run_all, ("put day stock 8", 5))
        self.same((shell.run("total day"), len(shell)), ("4", 4))

    def test_log(self):
        shell = Shell()
        texts = (SCENE, "names", BASE, "put day stock 8", "take day stock 99", "undo 1", "redo 1", "total day", "undo 9", "names x",
                 "drop day", "undo 1", "hold day stock", "free day stock", "judge\nchanging t", "phases\nchanging t",
                 "twins door\nchanging t", "open day", "shut day", "unkey day place", "show day", "rows day", "book day", "doors day",
                 "ask day =", "work day", "hold day order", "unkey day place", "key day place part", "base day", "undo 0")
        answers = [shell.tried(text) for text in texts]
        words = ("scene", "base", "put", "take", "hold", "free", "key", "unkey", "open", "shut", "drop", "undo", "redo")
        logged = tuple(text for text, answer in zip(texts, answers)
                       if text.partition("\n")[0].split(" ")[0] in words and not answer.startswith("! "))
        self.same((shell.log, len(shell)), (logged, len(logged)))
        again = Shell.of_log(shell.log)
        self.assertEqual(again, shell)
        self.same((again.log, again.run("undo 0")), (logged, shell.run("undo 0")))
        self.assertEqual(str(shell), "shell with 1 scenes")
        with self.assertRaises(AttributeError):
            shell.log = ()

    def test_of_log(self):
        self.assertEqual(Shell.of_log(()), Shell())
        self.raises(UnknownName, Shell.of_log, (SCENE, "total zz"))
        self.same(Shell.of_log((SCENE, "names")).log, (SCENE,))


class Desks(Case):

    def test_a_twin_of_a_desk(self):
        desk = Desk()
        desk.apply(("scene", "day", STALL), ("open", "day", ("shelf",)))
        desk.apply(("put", "day", "stock", (8,), 1))
        shell = Shell(desk)
        self.assertEqual(shell.desk_twin(), desk)
        self.same((shell.run("work day"), shell.log, len(shell), shell.tried("undo 1")), ("1 2", (), 0, "! NothingToUndo"))
        shell.run("drop day")
        self.same((list(desk), len(desk)), (["day"], 2))
        desk.apply(("drop", "day"), ("scene", "new", STALL))
        self.same((shell.run("names"), shell.run("undo 1"), shell.run("names")), ("", "0", "day"))
        twin = shell.desk_twin()
        self.same((len(twin), twin.apply(("drop", "day")), shell.run("names")), (0, 1, "day"))

    def test_errors(self):
        for value in EVERY:
            if value is not None and not isinstance(value, Desk):
                self.raises(InvalidOperation, Shell, value)
        self.raises(InvalidOperation, Shell, Shell())
        self.assertEqual(Shell(None), Shell())

    def test_equal(self):
        desk = Desk()
        desk.apply(("scene", "day", STALL), ("open", "day", ("shelf",)), ("open", "day", ()))
        self.assertEqual(stall(), Shell(desk))
        self.assertNotEqual(stall(), Shell())
        shell = stall()
        shell.run("put day stock 8")
        self.assertNotEqual(stall(), shell)
        shell.run("take day stock 8")
        self.assertEqual(stall(), shell)
        for value in [*EVERY, desk]:
            self.assertIs(shell == value, False)
            self.assertIs(shell != value, True)
        self.assertEqual(str(Shell()), "shell with 0 scenes")
        self.assertRaises(TypeError, iter, shell)


class Histories(Case):
    """Commands beside the edits of a desk."""

    def some_command(self, chance, desk, scenes):
        """A command, and the edit that it makes."""
        name = chance.choice("abc")
        word = chance.choice(("scene", "base", "put", "take", "hold", "free", "key", "unkey", "open", "shut", "drop"))
        if word == "scene" or name not in desk:
            scene = chance.choice(scenes)
            return f"scene {name}\n{format_scene(scene)}", (("scene", name, Base(scene)),)
        base = desk.base_of(name)
        scene = base.scene
        table = chance.choice(scene.tables)
        if word == "base":
            new = some_base(scene, chance, most=3)
            rows = {one: tuple(row for row, many in new.rows(one).items() for _ in range(many)) for one in scene.tables}
            return f"base {name}\n{format_base(new)}", tuple(("rows", name, one, rows[one]) for one in scene.tables)
        if word in ("put", "take"):
            row, many = tuple(chance.randrange(3) for _ in scene.columns_of(table)), chance.randint(1, 3)
            if word == "take" and base.rows(table):
                row = chance.choice(list(base.rows(table)))
            if scene.key_of(table) is not None:
                many = 1
            times = f" * {many}" if many > 1 else ""
            return " ".join([word, name, table, *map(str, row)]) + times, ((word, name, table, row, many),)
        if word in ("hold", "free"):
            return f"{word} {name} {table}", ((word, name, table),)
        if word == "key":
            key = tuple(chance.sample(scene.columns_of(table), chance.randint(0, len(scene.columns_of(table)))))
            return " ".join(["key", name, table, *key]), (("key", name, table, key),)
        if word == "unkey":
            return f"unkey {name} {table}", (("key", name, table, None),)
        if word == "drop":
            return f"drop {name}", (("drop", name),)
        door = chance.choice(subsets(scene.columns) + [(LETTERS,), ("b", "a")])
        return " ".join([word, name, *door]), ((word, name, door),)

    def test_beside_a_desk(self):
        chance, done, refused = Random(143), 0, 0
        for _ in range(25):
            shell, desk, scenes = Shell(), Desk(), some_scenes(12, tables=3, columns=3, seed=143)
            for _ in range(40):
                if chance.random() < 0.15:
                    word, many = chance.choice(("undo", "redo")), chance.randint(0, 3)
                    good = self.same_step(shell, f"{word} {many}", desk, lambda: str(getattr(desk, word)(many=many)))
                else:
                    text, edits = self.some_command(chance, desk, scenes)

                    def call():
                        groups = str(desk.apply(*edits))
                        return groups if edits[0][0] == "drop" else str(desk.total_at(edits[0][1]))
                    good = self.same_step(shell, text, desk, call)
                done, refused = done + good, refused + (not good)
                self.check(shell, desk)
            self.assertEqual(Shell.of_log(shell.log), shell)
        self.assertGreater(done, 300)
        self.assertGreater(refused, 100)

    def same_step(self, shell, text, desk, call):
        """Whether the step is made, by both or by none."""
        try:
            expected = call()
        except Exception as error:
            many = len(shell)
            self.same(shell.tried(text), "! " + type(error).__name__)
            self.raises(type(error), shell.run, text)
            self.same(len(shell), many)
            return False
        self.same(shell.run(text), expected)
        self.same(shell.log[-1], text)
        return True

    def check(self, shell, desk):
        self.assertEqual(shell.desk_twin(), desk)
        self.same(shell.run("names"), " ".join(desk))
        self.same(str(shell), f"shell with {len(list(desk))} scenes")
        for name in desk:
            base, scene = desk.base_of(name), desk.base_of(name).scene
            self.assertEqual(parse_scene(shell.run(f"show {name}")), scene)
            self.assertEqual(parse_base(scene, shell.run(f"rows {name}")), base)
            self.same(shell.run(f"total {name}"), str(desk.total_at(name)))
            self.same(shell.run(f"work {name}"), " ".join(map(str, desk.work(name))))
            doors = tuple(parse_role(scene, line) for line in shell.run(f"doors {name}").split("\n") if line)
            self.same(doors, desk.doors_of(name))
            for door in doors[:2]:
                asked = " ".join(["ask", name, *door, "=", *("1" for _ in door)])
                self.same(shell.run(asked), str(desk.ask(name, door, (1,) * len(door))))

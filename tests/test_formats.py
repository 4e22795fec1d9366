"""Stage 17: texts."""

import re
from random import Random

from fewtouched.base.bases import Base
from fewtouched.base.scenes import Scene
from fewtouched.errors import (InvalidBase, InvalidOperation, InvalidRole, InvalidScene, InvalidView, ParseError)
from fewtouched.strain.twins import twins
from fewtouched.text.formats import (format_base, format_bridge, format_role, format_scene, format_twins, format_view,
                                     parse_base, parse_bridge, parse_role, parse_scene, parse_twins, parse_view)
from fewtouched.text.integers import integer_of, is_integer_text, text_of
from tests.arguments import Argument, check_errors
from tests.oracle import orders, roles_of, some_base, some_scenes, views_of
from tests.values import (CHAIN, Case, DAY, EVERY, FAR, GOODS, LONG, NO_BASES, NO_SCENES, SHELVES, SHOP, no_role, no_view)

ODD = Scene(changing={"second": ("a",), "first": (), "integers": ("a", "b")}, fixed={"bare": (), "door": ("b",), "table": ()},
            keyed={"bare": (), "door": ()})
SCENES = (SHOP, GOODS, CHAIN, FAR, ODD)
ODD_BASE = Base(ODD, second=((1,), (1,), (-5,)), first=((), (), ()), integers=((0, -1), (0, 0)), bare=((),), door=((7,),))
TWINS = ((0,), Base(SHOP, order=((1, 0), (2, 1)), stock=((1,),)), Base(SHOP, order=((1, 0), (2, 1)), stock=((2,),)))
TWINS_TEXT = "integers 0\nfirst\n  order 1 0\n  order 2 1\n  stock 1\nsecond\n  order 1 0\n  order 2 1\n  stock 2"
SIGNS = " |*-\n\t09a+_.z"


def near(text, chance, many=25):
    """Texts that differ a little from this one."""
    for _ in range(many):
        at = chance.randint(0, len(text))
        sign = chance.choice(SIGNS)
        yield text[:at] + sign + text[at:]
        yield text[:at] + text[at + 1:]
        yield text[:at] + sign + text[at + 1:]
        for gap in ("\n", " "):
            parts = text.split(gap)
            one, other = chance.randrange(len(parts)), chance.randrange(len(parts))
            parts[one], parts[other] = parts[other], parts[one]
            yield gap.join(parts)
            yield gap.join(parts[:one] + parts[one:one + 1] + parts[one:])
            yield gap.join(parts[:one] + parts[one + 1:])
    yield from (text + "\n", "\n" + text, text + " ", " " + text, text.upper(), text.replace(" ", "  "), text.replace("\n", "\r\n"))


def is_base_text(scene, text):
    """Whether it is the text of a base, told by its form."""
    found = []
    for line in text.split("\n") if text else ():
        match = re.fullmatch(r"([a-z]+)((?: (?:0|-?[1-9][0-9]*))*)(?: \* ([1-9][0-9]*))?", line, re.ASCII)
        if not match or match[1] not in scene.tables:
            return False
        row = tuple(int(word) for word in match[2].split())
        key, columns = scene.key_of(match[1]), scene.columns_of(match[1])
        if len(row) != len(columns) or match[3] == "1" or key is not None and match[3]:
            return False
        found.append((match[1], row))
    keys = [(table, tuple(row[scene.columns_of(table).index(column)] for column in scene.key_of(table)))
            for table, row in found if scene.key_of(table) is not None]
    return found == sorted(set(found)) and len(keys) == len(set(keys)) and len(found) <= 400


def is_scene_text(text):
    """Whether it is the text of a scene, told by its form."""
    tables, columns = [], set()
    for line in text.split("\n"):
        match = re.fullmatch(r"(changing|fixed) ([a-z]{1,8})((?: [a-z]{1,8}){0,4})( \|(?: [a-z]{1,8})*)?", line)
        if not match:
            return False
        told, key = match[3].split(), (match[4] or " |").split()[1:]
        if told != sorted(set(told)) or key != sorted(set(key)) or not set(key) <= set(told):
            return False
        if match[4] and match[1] == "changing":
            return False
        tables.append(match[2])
        columns |= set(told)
    return tables == sorted(set(tables)) and len(tables) <= 6 and len(columns) <= 6


class Document(Case):

    def test_examples(self):
        self.assertEqual(format_scene(GOODS).split("\n"),
                         ["changing order part who", "fixed place part shelf | part", "changing stock shelf"])
        self.assertEqual(
            [format_base(DAY).split("\n")[:3], format_view(SHOP, (("order", "stock"), ("who",))), parse_role(SHOP, "door part"),
             format_bridge(SHOP, ("order",))],
            [["buyer 1", "buyer 2", "order 10 1 * 2"], "order stock | who", ("part",), "order"])
        self.assertEqual(
            [parse_base(SHOP, format_base(DAY)) == DAY, parse_scene("fixed t |\nchanging u a").key_of("t"),
             format_role(SHOP, "stock"), format_role(SHOP, ())],
            [True, (), "table stock", "door"])


class Integers(Case):

    def test_there_and_back(self):
        for number in (0, 1, -1, 9, 10, -10, LONG, -LONG, 10 ** 63, 10 ** 64, 10 ** 64 - 1, 10 ** 128, 10 ** 64 + 7, -10 ** 200 - 10 ** 70):
            self.same(text_of(number), str(number))
            self.same(integer_of(str(number)), number)
            self.assertIs(is_integer_text(str(number)), True)

    def test_more_digits_than_python_reads_at_once(self):
        for digits in (4300, 4301, 9000):
            text = "-" + "1234567890" * (digits // 10) + "7" * (digits % 10)
            self.same(text_of(integer_of(text)), text)
            self.same(integer_of(text) % 10 ** 20, -int(text[-20:]) % 10 ** 20)

    def test_other_texts(self):
        for text in ("", "-", "-0", "00", "01", "-01", "+1", " 1", "1 ", "1_0", "1.0", "--1", "1-", "a", "0x1", "1e3", "\n1", "1\n",
                     "\u0661", "\u00b2"):
            self.assertIs(is_integer_text(text), False)


class Scenes(Case):

    def test_there_and_back(self):
        for scene in (*SCENES, *some_scenes(150, seed=130)):
            text = format_scene(scene)
            self.assertEqual(parse_scene(text).lines, scene.lines)
            self.assertTrue(is_scene_text(text))

    def test_texts(self):
        self.same(format_scene(ODD), "fixed bare |\nfixed door b |\nchanging first\nchanging integers a b\nchanging second a\nfixed table")
        self.same(format_scene(GOODS.with_key("place", None)).split("\n")[1], "fixed place part shelf")
        self.same(format_scene(Scene(fixed={"t": ("a", "b")}, keyed={"t": ("a", "b")})), "fixed t a b | a b")

    def test_near_texts(self):
        chance, good = Random(131), 0
        for scene in (*SCENES, *some_scenes(30, seed=131)):
            for text in near(format_scene(scene), chance):
                good += self.check(text)
        self.assertGreater(good, 50)
        for text in ("", "changing", "fixed", "changing ", "fixed t | a", "fixed t a |b", "fixed t a| b", "changing t | ", "changing t |",
                     "fixed | t", "fixed t a | a a", "fixed t a a", "fixed t b a", "changing t abcdefghi", "keyed t a", "changing T",
                     "changing b\nchanging a", "changing a\nchanging a", "fixed t |  ", "fixed t | |", "changing t a b c d e",
                     "changing u a b c d\nchanging v e f g", "\n".join(f"changing {name}" for name in "abcdefg")):
            self.assertIs(self.check(text), False)
        self.assertTrue(self.check("\n".join(f"changing {name}" for name in "abcdef")))

    def check(self, text):
        if is_scene_text(text):
            self.same(format_scene(parse_scene(text)), text)
            return True
        self.raises(ParseError, parse_scene, text)
        return False

    def test_errors(self):
        for value in EVERY:
            self.raises(ParseError, parse_scene, value)
        self.raises(ParseError, parse_scene, [format_scene(SHOP)])
        check_errors(self, format_scene, Argument(SHOP, NO_SCENES, InvalidScene))


class Bases(Case):

    def test_there_and_back(self):
        chance = Random(132)
        for scene in (*SCENES, *some_scenes(150, seed=132)):
            for base in (some_base(scene, chance), Base(scene)):
                text = format_base(base)
                self.assertEqual(parse_base(scene, text), base)
                self.assertTrue(is_base_text(scene, text))

    def test_texts(self):
        self.same(format_base(ODD_BASE), "bare\ndoor 7\nfirst * 3\nintegers 0 -1\nintegers 0 0\nsecond -5\nsecond 1 * 2")
        self.same((format_base(Base(ODD)), parse_base(ODD, "").size), ("", 0))
        self.assertEqual(parse_base(ODD, format_base(ODD_BASE)), ODD_BASE)
        self.same(format_base(DAY), "buyer 1\nbuyer 2\norder 10 1 * 2\norder 20 1\norder 20 2\nstock 10")

    def test_very_many_digits(self):
        more = Base(SHOP, stock=((-LONG,),)).put("stock", (-LONG,), many=LONG ** 60)
        self.same(format_base(more), f"stock {-LONG} * {LONG ** 60 + 1}")
        self.assertEqual(parse_base(SHOP, format_base(more)), more)
        huge = integer_of("7" * 5000)
        base = Base(SHOP, stock=((huge,),)).put("stock", (huge,), many=huge)
        self.assertEqual(parse_base(SHOP, format_base(base)), base)

    def test_near_texts(self):
        chance, good = Random(133), 0
        bases = [DAY, ODD_BASE, SHELVES, Base(GOODS, place=((10, 7), (20, 7), (30, 5))), Base(ODD)]
        for base in bases + [some_base(scene, chance) for scene in some_scenes(25, seed=133)]:
            for text in near(format_base(base), chance):
                good += self.check(base.scene, text)
        self.assertGreater(good, 100)
        for text in ("stock", "stock 1 2", "stock 1 * 1", "stock 1 * 0", "stock 1 * -2", "stock 1 *", "stock 1 * 02", "stock 1 * a",
                     "stock 01", "stock +1", "stock -0", "stock 1.0", "stock 1_0", "stock * 2", "Stock 1", "stock 1\n", "\nstock 1",
                     "stock 2\nstock 1", "stock 1\nstock 1", "stock 1\nbuyer 1", "zz", "zz 1", "stock 1 * 2 * 2", "stock  1", "* 2",
                     "stock 1 ** 2", "stock 1 x 2", " ", "\n", "stock\t1"):
            self.assertIs(self.check(SHOP, text), False)
        for text in ("place 1 2 * 2", "place 1 2\nplace 1 3", "place 1 2\nplace 1 2"):
            self.assertIs(self.check(GOODS, text), False)

    def test_four_hundred_rows(self):
        text = "\n".join(f"stock {at}" for at in range(400))
        self.assertTrue(self.check(SHOP, text))
        self.assertFalse(self.check(SHOP, text + "\nstock 400"))
        self.assertFalse(self.check(SHOP, "buyer 1\n" + text))

    def check(self, scene, text):
        if is_base_text(scene, text):
            self.same(format_base(parse_base(scene, text)), text)
            return True
        self.raises(ParseError, parse_base, scene, text)
        return False

    def test_errors(self):
        check_errors(self, format_base, Argument(DAY, NO_BASES, InvalidBase))
        wrong = [value for value in EVERY if value != ""] + [["stock 1"], "place 1 2"]
        check_errors(self, parse_base, Argument(SHOP, NO_SCENES, InvalidScene), Argument("stock 1", wrong, ParseError))


class Views(Case):

    def test_there_and_back_and_near(self):
        chance = Random(134)
        for scene in (*SCENES, *some_scenes(12, tables=4, columns=4, seed=134)):
            texts = {format_view(scene, view): view for view in views_of(scene)}
            self.assertEqual(len(texts), len(views_of(scene)))
            for text, view in texts.items():
                self.same(parse_view(scene, text), view)
            for text in chance.sample(sorted(texts), min(10, len(texts))):
                for other in near(text, chance, 6):
                    self.check(scene, texts, other)

    def check(self, scene, texts, text):
        if text in texts:
            self.same(parse_view(scene, text), texts[text])
        else:
            self.raises(ParseError, parse_view, scene, text)

    def test_texts(self):
        self.same((format_view(SHOP, (("order",), ())), parse_view(SHOP, "order |")), ("order |", (("order",), ())))
        for text in ("order", "| who", " | who", "order | ", "order |who", "order| who", "stock order |", "order | who part", "order | shelf",
                     "order | | who", "order |\n", "zz |", "|", "order who", "buyer | part", "order |  who"):
            self.raises(ParseError, parse_view, SHOP, text)

    def test_errors(self):
        view = (("order",), ("who",))
        check_errors(self, format_view, Argument(SHOP, NO_SCENES, InvalidScene), Argument(view, no_view(SHOP), InvalidView))
        check_errors(self, parse_view, Argument(SHOP, NO_SCENES, InvalidScene), Argument("order | who", EVERY, ParseError))


class Roles(Case):

    def test_there_and_back_and_near(self):
        chance = Random(135)
        for scene in (*SCENES, *some_scenes(12, seed=135)):
            texts = {format_role(scene, role): role for role in roles_of(scene)}
            self.assertEqual(len(texts), len(roles_of(scene)))
            for text, role in texts.items():
                self.same(parse_role(scene, text), role)
                for other in near(text, chance, 2):
                    if other in texts:
                        self.same(parse_role(scene, other), texts[other])
                    else:
                        self.raises(ParseError, parse_role, scene, other)

    def test_texts(self):
        self.same((format_role(SHOP, ("part", "who")), parse_role(SHOP, "door part who"), parse_role(SHOP, "door")),
                  ("door part who", ("part", "who"), ()))
        self.same((parse_role(ODD, "table first"), parse_role(ODD, "table second")), ("first", "second"))
        for text in ("table", "table ", "door ", "door who part", "door who who", "table zz", "table order stock", "order", "who",
                     "door shelf", "Door", "table order\n", " door", "table  order"):
            self.raises(ParseError, parse_role, SHOP, text)
        for text in ("table place", "door zz"):
            self.raises(ParseError, parse_role, GOODS, text)
        for text in ("table door", "table table", "door door"):
            self.raises(ParseError, parse_role, ODD, text)

    def test_errors(self):
        check_errors(self, format_role, Argument(GOODS, NO_SCENES, InvalidScene), Argument("order", no_role(GOODS), InvalidRole))
        check_errors(self, parse_role, Argument(SHOP, NO_SCENES, InvalidScene), Argument("door who", EVERY, ParseError))


class Bridges(Case):

    def test_there_and_back_and_near(self):
        chance = Random(136)
        for scene in (*SCENES, *some_scenes(5, tables=4, seed=136)):
            texts = {format_bridge(scene, path): path for path in orders(scene.tables) if path}
            self.assertEqual(len(texts), len(orders(scene.tables)) - 1)
            for text, path in texts.items():
                self.same(parse_bridge(scene, text), path)
            for text in chance.sample(sorted(texts), min(20, len(texts))):
                for other in near(text, chance, 3):
                    if other in texts:
                        self.same(parse_bridge(scene, other), texts[other])
                    else:
                        self.raises(ParseError, parse_bridge, scene, other)

    def test_texts(self):
        self.same((format_bridge(GOODS, ("order", "place")), parse_bridge(GOODS, "stock - order - place")),
                  ("order - place", ("stock", "order", "place")))
        for text in ("", "order -", "order-place", "order  - place", "order - order", "order - zz", "- order", "order - place - ", "order place"):
            self.raises(ParseError, parse_bridge, GOODS, text)

    def test_errors(self):
        wrong = [value for value in EVERY if value not in orders(GOODS.tables)[1:]] + [("order", "order"), ["order"], ()]
        check_errors(self, format_bridge, Argument(GOODS, NO_SCENES, InvalidScene),
                     Argument(("order", "place"), wrong, InvalidOperation))
        texts = [value for value in EVERY if type(value) is not str or value not in GOODS.tables]
        check_errors(self, parse_bridge, Argument(GOODS, NO_SCENES, InvalidScene), Argument("order", texts, ParseError))


class Twins(Case):

    def test_there_and_back(self):
        chance = Random(137)
        for scene in (*SCENES, *some_scenes(60, seed=137)):
            told = [twins(scene, role) for role in roles_of(scene)[:6]]
            told.append(((), Base(scene), Base(scene)))
            told.append(((LONG, -1, 0), some_base(scene, chance), some_base(scene, chance)))
            for value in told:
                if value is not None:
                    self.assertEqual(parse_twins(scene, format_twins(scene, value)), value)

    def test_texts(self):
        self.same(format_twins(SHOP, TWINS), TWINS_TEXT)
        self.same(format_twins(SHOP, ((), Base(SHOP), Base(SHOP))), "integers\nfirst\nsecond")
        self.same(format_twins(ODD, ((5, -5), ODD_BASE, Base(ODD, first=((),)))),
                  "integers 5 -5\nfirst\n  bare\n  door 7\n  first * 3\n  integers 0 -1\n  integers 0 0\n  second -5\n  second 1 * 2\n"
                  "second\n  first")
        self.assertEqual(parse_twins(SHOP, TWINS_TEXT), TWINS)

    def test_near_texts(self):
        chance, good = Random(138), 0
        for scene, value in ((SHOP, TWINS), (ODD, ((5, -5), ODD_BASE, ODD_BASE)), (GOODS, ((), SHELVES, Base(GOODS)))):
            for text in near(format_twins(scene, value), chance, 60):
                good += self.check(scene, text)
        self.assertGreater(good, 10)
        for text in ("integers\nfirst\nsecond\n", "integers \nfirst\nsecond", "integers\nsecond\nfirst", "integers\nfirst\n  \nsecond",
                     "integers\nfirst\nsecond\n  ", "first\nsecond", "integers\nfirst", "integers\nfirst\nsecond\nsecond",
                     "integers 01\nfirst\nsecond", "integers a\nfirst\nsecond", "integers\nfirst\nstock 1\nsecond",
                     "integers\nfirst\n   stock 1\nsecond", "integers\nfirst\n stock 1\nsecond", "integers\nFirst\nsecond", "integers\n\nsecond"):
            self.assertIs(self.check(SHOP, text), False)

    def check(self, scene, text):
        """Whether it is a text of twins, which is looked at by its form."""
        match = re.fullmatch(r"integers((?: (?:0|-?[1-9][0-9]*))*)\nfirst((?:\n  [^\n]+)*)\nsecond((?:\n  [^\n]+)*)", text)
        parts = [part.replace("\n  ", "\n")[1:] for part in match.groups()[1:]] if match else ["\n"]
        if not all(is_base_text(scene, part) for part in parts):
            self.raises(ParseError, parse_twins, scene, text)
            return False
        integers = tuple(int(word) for word in match[1].split())
        self.assertEqual(parse_twins(scene, text), (integers, *[parse_base(scene, part) for part in parts]))
        return True

    def test_errors(self):
        wrong = [*EVERY, TWINS[:2], list(TWINS), ([0], *TWINS[1:]), ((True,), *TWINS[1:]), ((None,), *TWINS[1:]), (0, *TWINS[1:]),
                 ((0,), SHOP, TWINS[2]), ((0,), TWINS[1], None), ((0,), TWINS[1], SHELVES), ((0,), DAY.on(SHOP.held("stock")), DAY),
                 (*TWINS, TWINS[2])]
        check_errors(self, format_twins, Argument(SHOP, NO_SCENES, InvalidScene), Argument(TWINS, wrong, InvalidOperation))
        check_errors(self, parse_twins, Argument(SHOP, NO_SCENES, InvalidScene), Argument(TWINS_TEXT, EVERY, ParseError))
        self.same(format_twins(SHOP, ((1, 2, 3), DAY, DAY)).split("\n")[0], "integers 1 2 3")

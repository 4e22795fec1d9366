"""Texts of scenes, bases, views, roles, bridges and twins: exactly one of each value, from which it is read again."""

from fewtouched.base.bases import Base, base_with, need_base
from fewtouched.base.checks import is_door, need_role, need_scene
from fewtouched.base.names import is_whole
from fewtouched.base.scenes import CHANGING, Scene
from fewtouched.errors import InvalidBase, InvalidOperation, InvalidScene, ParseError, TooMany
from fewtouched.text.integers import integer_of, is_integer_text, text_of
from fewtouched.views.views import is_view, need_view

FIXED = "fixed"
BAR = "|"
TIMES = "*"
INDENT = "  "


def format_scene(scene):
    """The text of a scene: a line for each table."""
    need_scene(scene)
    return "\n".join([_line_text(line) for line in scene.lines])


def format_base(base):
    """The text of a base: a line for each row."""
    need_base(base)
    return "\n".join(_row_texts(base))


def format_view(scene, view):
    """The text of a view: its tables and its columns."""
    need_scene(scene)
    need_view(scene, view)
    return " ".join([*view[0], BAR, *view[1]])


def format_role(scene, role):
    """The text of a role: a table, or a door and its columns."""
    need_scene(scene)
    need_role(scene, role)
    if isinstance(role, str):
        return f"table {role}"
    return " ".join(["door", *role])


def format_bridge(scene, bridge):
    """The text of different tables of the scene."""
    need_scene(scene)
    if not _is_bridge_like(scene, bridge):
        raise InvalidOperation("a bridge is a tuple of different tables of the scene")
    return " - ".join(bridge)


def format_twins(scene, twins):
    """The text of integers and two bases of the scene."""
    need_scene(scene)
    if not _is_twins_like(scene, twins):
        raise InvalidOperation("twins are a tuple of integers and two bases of the scene")
    integers, first, second = twins
    head = " ".join(["integers", *[text_of(integer) for integer in integers]])
    before, behind = [INDENT + row for row in _row_texts(first)], [INDENT + row for row in _row_texts(second)]
    return "\n".join([head, "first", *before, "second", *behind])


def parse_scene(text):
    """The scene with this text."""
    _need_text(text)
    lines = tuple([_line_told(line) for line in text.split("\n")])
    try:
        scene = Scene.of(lines)
    except InvalidScene:
        raise ParseError("there is no such scene")
    # What is not in the one order, or told in another way, is not the text of this scene.
    if format_scene(scene) != text:
        raise ParseError("it is not the text of a scene")
    return scene


def parse_base(scene, text):
    """The base of the scene with this text."""
    need_scene(scene)
    _need_text(text)
    times = {table: {} for table in scene}
    for line in text.split("\n") if text != "" else []:
        table, row, many = _row_told(scene, line)
        times[table][row] = many
    try:
        base = base_with(scene, times)
    except (InvalidBase, TooMany):
        raise ParseError("there is no such base")
    if format_base(base) != text:
        raise ParseError("it is not the text of a base")
    return base


def parse_view(scene, text):
    """The view of the scene with this text."""
    need_scene(scene)
    _need_text(text)
    words = text.split(" ")
    if BAR not in words:
        raise ParseError("a bar stands between tables and columns")
    at = words.index(BAR)
    view = tuple(words[:at]), tuple(words[at + 1:])
    if not is_view(scene, view):
        raise ParseError("the scene has no such view")
    return view


def parse_role(scene, text):
    """The role of the scene with this text."""
    need_scene(scene)
    _need_text(text)
    word, *more = text.split(" ")
    if word == "table" and len(more) == 1 and more[0] in scene.changing:
        return more[0]
    door = tuple(more)
    if word != "door" or not is_door(scene, door):
        raise ParseError("the scene has no such role")
    return door


def parse_bridge(scene, text):
    """The tables of the scene with this text."""
    need_scene(scene)
    _need_text(text)
    bridge = tuple(text.split(" - "))
    if not _is_bridge_like(scene, bridge):
        raise ParseError("a bridge has different tables of the scene")
    return bridge


def parse_twins(scene, text):
    """The integers and the two bases of the scene with this text."""
    need_scene(scene)
    _need_text(text)
    head, *rows = text.split("\n")
    word, *integers = head.split(" ")
    if word != "integers" or "second" not in rows or not all([is_integer_text(one) for one in integers]):
        raise ParseError("it is not the text of twins")
    at = rows.index("second")
    first, second = _base_behind(scene, rows[1:at]), _base_behind(scene, rows[at + 1:])
    twins = tuple([integer_of(one) for one in integers]), first, second
    if format_twins(scene, twins) != text:
        raise ParseError("it is not the text of twins")
    return twins


def _line_text(line):
    """The text of a line of a scene."""
    table, columns, key = line
    if key == CHANGING:
        return " ".join([CHANGING, table, *columns])
    behind = [] if key is None else [BAR, *key]
    return " ".join([FIXED, table, *columns, *behind])


def _row_texts(base):
    """The texts of the rows of a base, ascending by tables, then by rows."""
    texts = []
    for table in base.scene:
        for row, many in base.rows(table).items():
            behind = [TIMES, text_of(many)] if many > 1 else []
            texts.append(" ".join([table, *[text_of(integer) for integer in row], *behind]))
    return texts


def _line_told(text):
    """The line of a scene that a text tells."""
    words = text.split(" ")
    if len(words) < 2 or words[0] not in (CHANGING, FIXED):
        raise ParseError("a line of a scene begins with a word and a table")
    if words[0] == CHANGING:
        return words[1], tuple(words[2:]), CHANGING
    if BAR not in words:
        return words[1], tuple(words[2:]), None
    at = words.index(BAR)
    return words[1], tuple(words[2:at]), tuple(words[at + 1:])


def _row_told(scene, text):
    """The table, the row and its times that a text tells."""
    words, many = text.split(" "), "1"
    if len(words) > 2 and words[-2] == TIMES:
        words, many = words[:-2], words[-1]
    table, row = words[0], words[1:]
    if table not in scene or len(row) != len(scene.columns_of(table)):
        raise ParseError("a row begins with its table, and has an integer for each column")
    if not all([is_integer_text(word) for word in [*row, many]]) or integer_of(many) < 1:
        raise ParseError("integers are written in one way, and times are at least 1")
    return table, tuple([integer_of(word) for word in row]), integer_of(many)


def _base_behind(scene, rows):
    """The base with these rows, each behind two blanks."""
    if not all([row.startswith(INDENT) for row in rows]):
        raise ParseError("rows stand behind two blanks")
    return parse_base(scene, "\n".join([row.removeprefix(INDENT) for row in rows]))


def _is_bridge_like(scene, value):
    """Whether the value is a tuple of one or more different tables of the scene."""
    if not isinstance(value, tuple) or len(value) == 0 or not all([table in scene for table in value]):
        return False
    return len({table for table in value}) == len(value)


def _is_twins_like(scene, value):
    """Whether the value is a triple of a tuple of integers and two bases of the scene."""
    if not isinstance(value, tuple) or len(value) != 3 or not isinstance(value[0], tuple):
        return False
    bases = [base for base in value[1:] if isinstance(base, Base) and base.scene == scene]
    return len(bases) == 2 and all([is_whole(integer) for integer in value[0]])


def _need_text(value):
    """ParseError if it is no text."""
    if not isinstance(value, str):
        raise ParseError("it is no text")

"""A shell: a desk that is led by texts."""

from fewtouched.base.bases import Base
from fewtouched.books.books import book, first_strained
from fewtouched.desk.desk import Desk
from fewtouched.errors import (InvalidBase, InvalidCommand, InvalidOperation, InvalidRole, InvalidScene, NothingToUndo,
                               NotThere, ParseError, Strained, TooMany, UnknownName)
from fewtouched.strain.served import fewest_phases
from fewtouched.strain.twins import twins
from fewtouched.text.commands import begins_with_name, command_told
from fewtouched.text.formats import (format_base, format_bridge, format_role, format_scene, format_twins, format_view,
                                     parse_base, parse_role, parse_scene)
from fewtouched.text.integers import text_of

MOST_TIMES = 1000
EDITING = ("scene", "base", "put", "take", "hold", "free", "key", "unkey", "open", "shut")
GROUPING = ("drop", "undo", "redo")
OF_SCENES = ("judge", "phases", "twins")


class Shell:
    """A desk of its own, at which commands are run."""

    def __init__(self, desk=None):
        if desk is not None and not isinstance(desk, Desk):
            raise InvalidOperation("it is no desk")
        self._desk = Desk() if desk is None else desk.twin()
        self._log = ()

    @classmethod
    def of_log(cls, texts):
        """A new shell that has run the commands of a tuple."""
        shell = cls()
        shell.run_all(texts)
        return shell

    @property
    def log(self):
        """The texts of the commands that edit, in the order in which they were run."""
        return self._log

    def run(self, text):
        """Run a command, and return its answer."""
        word, values, more = command_told(text)
        if begins_with_name(word) and word != "scene" and values[0] not in self._desk:
            raise UnknownName(values[0])
        answer = _answered(self._desk, word, values, more)
        if word in EDITING or word in GROUPING:
            self._log = (*self._log, text)
        return answer

    def run_all(self, texts):
        """Run the commands of a tuple, and return the tuple of their answers."""
        if not isinstance(texts, tuple):
            raise InvalidOperation("commands are a tuple of texts")
        return tuple([self.run(text) for text in texts])

    def tried(self, text):
        """As run, but where an error would be raised it returns a text with the name of its class."""
        try:
            return self.run(text)
        except InvalidCommand:
            return "! InvalidCommand"
        except UnknownName:
            return "! UnknownName"
        except ParseError:
            return "! ParseError"
        except InvalidScene:
            return "! InvalidScene"
        except InvalidBase:
            return "! InvalidBase"
        except InvalidRole:
            return "! InvalidRole"
        except InvalidOperation:
            return "! InvalidOperation"
        except TooMany:
            return "! TooMany"
        except NotThere:
            return "! NotThere"
        except Strained:
            return "! Strained"
        except NothingToUndo:
            return "! NothingToUndo"

    def desk_twin(self):
        """An independent twin of the desk."""
        return self._desk.twin()

    def __len__(self):
        return len(self._log)

    def __eq__(self, other):
        return isinstance(other, Shell) and self._desk == other._desk

    def __str__(self):
        return f"shell with {len(list(self._desk))} scenes"


def _answered(desk, word, values, more):
    """The answer of a command; its edits are made at the desk."""
    if word in EDITING:
        desk.apply_all(_edits_told(desk, word, values, more))
        return text_of(desk.total_at(values[0]))
    if word in GROUPING:
        return str(_groups(desk, word, values[0]))
    if word in OF_SCENES:
        return _judged(parse_scene(more), word, values)
    action = ANSWERS[word]
    return action(desk, *values)


def _edits_told(desk, word, values, more):
    """The edits of a command, which are one group."""
    name = values[0]
    if word == "scene":
        return (("scene", name, Base(parse_scene(more))),)
    if word == "base":
        return _edits_of_rows(desk, name, more)
    if word in ("put", "take"):
        table, row, many = _row_told(desk.base_of(name).scene, values[1])
        return ((word, name, table, row, many),)
    if word == "unkey":
        return (("key", name, values[1], None),)
    return ((word, *values),)


def _edits_of_rows(desk, name, text):
    """The edits that put these rows in place of all others."""
    scene = desk.base_of(name).scene
    base = parse_base(scene, text)
    if any([many > MOST_TIMES for table in scene for many in base.rows(table).values()]):
        raise TooMany(MOST_TIMES)
    # All tables are emptied first, as the new rows beside old ones could be too many.
    empty = [("rows", name, table, ()) for table in scene]
    full = [("rows", name, table, _repeated(base.rows(table))) for table in scene]
    return (*empty, *full)


def _repeated(times):
    """A tuple in which each row stands as often as it is there."""
    return tuple([row for row, many in times.items() for _ in range(many)])


def _row_told(scene, text):
    """The table, the row and its times of a base with one row."""
    base = parse_base(scene, text)
    rows = [(table, row, many) for table in scene for row, many in base.rows(table).items()]
    if len(rows) != 1:
        raise ParseError("it is not the text of one row")
    return rows[0]


def _groups(desk, word, value):
    """How many groups are in effect behind a drop, an undo or a redo."""
    if word == "drop":
        return desk.apply(("drop", value))
    if word == "undo":
        return desk.undo(many=value)
    return desk.redo(many=value)


def _judged(scene, word, values):
    """What is told of a scene, be it at a desk or not."""
    if word == "phases":
        return " / ".join([" ".join(phase) for phase in fewest_phases(scene)])
    if word == "twins":
        role = parse_role(scene, values[0])
        found = twins(scene, role)
        return "none" if found is None else format_twins(scene, found)
    strained = first_strained(scene)
    if strained is None:
        return "quiet"
    return f"{strained[0]} {strained[1]}: {format_bridge(scene, strained[2])}"


def _names(desk):
    return " ".join(list(desk))


def _show(desk, name):
    return format_scene(desk.base_of(name).scene)


def _rows(desk, name):
    return format_base(desk.base_of(name))


def _book(desk, name):
    scene = desk.base_of(name).scene
    return "\n".join([format_view(scene, view) for view in book(scene, desk.doors_of(name))])


def _doors(desk, name):
    scene = desk.base_of(name).scene
    return "\n".join([format_role(scene, door) for door in desk.doors_of(name)])


def _total(desk, name):
    return text_of(desk.total_at(name))


def _ask(desk, name, question):
    return text_of(desk.ask(name, question[0], question[1]))


def _work(desk, name):
    looked, altered = desk.work(name)
    return f"{looked} {altered}"


# What answers the commands that change nothing, and are about what is at the desk.
ANSWERS = {"names": _names, "show": _show, "rows": _rows, "book": _book, "doors": _doors, "total": _total, "ask": _ask,
           "work": _work}

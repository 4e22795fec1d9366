"""A desk in plain dicts: rows by tables, doors as sets, groups as copies of all that was there."""

from copy import deepcopy

from fewtouched.base.bases import Base
from fewtouched.base.scenes import Scene
from fewtouched.books.books import book, is_quiet_book
from fewtouched.errors import (InvalidBase, InvalidEdit, InvalidNumber, InvalidOperation, InvalidRole, InvalidScene,
                               NotThere, NothingToUndo, Strained, TooMany, UnknownName)
from tests.oracle import slow_entries
from tests.slow import slow_altered, slow_looked
from tests.values import is_choice, is_subset

LENGTHS = {"scene": 3, "drop": 2, "put": 5, "take": 5, "rows": 4, "hold": 3, "free": 3, "key": 4, "open": 3, "shut": 3}


def is_integers(value, many):
    return type(value) is tuple and len(value) == many and all(type(part) is int for part in value)


class PlainPlace:

    def __init__(self, base):
        self.lines = {line[0]: line for line in base.scene.lines}
        self.rows = {table: dict(base.rows(table)) for table in base.scene.tables}
        self.doors, self.work = set(), (0, 0)

    def scene(self):
        return Scene.of(tuple(self.lines.values()))

    def base(self):
        return Base.of(self.scene(), {table: tuple(row for row, many in times.items() for _ in range(many))
                                      for table, times in self.rows.items()})

    def need_rows(self, table, error=InvalidBase):
        """That the rows of a table are right for its key."""
        _, columns, key = self.lines[table]
        if type(key) is tuple:
            places = [columns.index(column) for column in key]
            keys = {tuple(row[at] for at in places) for row in self.rows[table]}
            if len(keys) < len(self.rows[table]) or any(many > 1 for many in self.rows[table].values()):
                raise error("key")

    def need_few(self):
        if sum(len(times) for times in self.rows.values()) > 400:
            raise TooMany(400)

    def need_quiet(self):
        if not is_quiet_book(self.scene(), tuple(self.doors)):
            raise Strained(None)


class PlainDesk:

    def __init__(self):
        self.places, self.done, self.undone, self.watches, self.heard = {}, [], [], [], []

    def apply(self, edits):
        places = deepcopy(self.places)
        for edit in edits:
            self.do(places, edit)
        if edits:
            self.done.append((edits, self.places))
            self.places, self.undone = places, []

    def undo(self, many):
        if many > len(self.done):
            raise NothingToUndo(many)
        for _ in range(many):
            edits, before = self.done.pop()
            self.undone.append((edits, self.places))
            self.places = before

    def redo(self, many):
        if many > len(self.undone):
            raise NothingToUndo(many)
        for _ in range(many):
            edits, after = self.undone.pop()
            self.done.append((edits, self.places))
            self.places = after

    def answer(self, watch):
        name, door, integers = watch
        if name not in self.places or door not in self.places[name].doors:
            return None
        base = self.places[name].base()
        return slow_entries(base, base.scene.tables, door).get(integers, 0)

    def watch(self, name, door, integers):
        self.watches.append((name, door, integers))
        self.heard.append(self.answer((name, door, integers)))

    def news(self):
        now = [self.answer(watch) for watch in self.watches]
        told = tuple((at, *pair) for at, pair in enumerate(zip(self.heard, now)) if pair[0] != pair[1])
        self.heard = now
        return told

    def do(self, places, edit):
        if type(edit) is not tuple or not edit or type(edit[0]) is not str or LENGTHS.get(edit[0]) != len(edit):
            raise InvalidEdit("edit")
        word, name, values = edit[0], edit[1], edit[2:]
        if word == "scene":
            if not is_choice((name,)) or name in places:
                raise InvalidOperation("name")
            if not isinstance(values[0], Base):
                raise InvalidBase("base")
            places[name] = PlainPlace(values[0])
            places[name].need_quiet()
        elif type(name) is not str or name not in places:
            raise UnknownName(name)
        elif word == "drop":
            del places[name]
        else:
            getattr(self, word)(places[name], *values)

    def need_table(self, place, table):
        if type(table) is not str or table not in place.lines:
            raise UnknownName(table)

    def change(self, place, table, row, many, sign):
        self.need_table(place, table)
        if not is_integers(row, len(place.lines[table][1])):
            raise InvalidBase("row")
        if type(many) is not int or many < 0:
            raise InvalidNumber(many)
        if place.lines[table][2] != "changing":
            raise InvalidOperation("fixed")
        times = place.rows[table].get(row, 0) + sign * many
        if times < 0:
            raise NotThere(row)
        before = place.base()
        place.rows[table][row] = times
        if times == 0:
            del place.rows[table][row]
        place.need_few()
        after, doors = place.base(), tuple(place.doors)
        looked = slow_looked(after, table, row, doors) if many else 0
        altered = slow_altered(before, after, book(before.scene, doors))
        place.work = (place.work[0] + looked, place.work[1] + altered)

    def put(self, place, table, row, many):
        self.change(place, table, row, many, 1)

    def take(self, place, table, row, many):
        self.change(place, table, row, many, -1)

    def rows(self, place, table, rows):
        self.need_table(place, table)
        if type(rows) is not tuple or not all(is_integers(row, len(place.lines[table][1])) for row in rows):
            raise InvalidBase("rows")
        keyed = type(place.lines[table][2]) is tuple
        place.rows[table] = {row: 1 if keyed else rows.count(row) for row in rows}
        place.need_rows(table)
        place.need_few()

    def hold(self, place, table):
        self.need_table(place, table)
        name, columns, key = place.lines[table]
        place.lines[table] = (name, columns, None if key == "changing" else key)

    def free(self, place, table):
        self.need_table(place, table)
        place.lines[table] = (*place.lines[table][:2], "changing")
        place.need_quiet()

    def key(self, place, table, key):
        self.need_table(place, table)
        _, columns, old = place.lines[table]
        if key is not None and not (is_choice(key) and set(key) <= set(columns)):
            raise InvalidScene("key")
        if old == "changing" or (old is None) == (key is None):
            raise InvalidOperation("key")
        place.lines[table] = (table, columns, key if key is None else tuple(sorted(key)))
        place.need_rows(table)
        place.need_quiet()

    def open(self, place, door):
        if not is_subset(door, place.scene().columns):
            raise InvalidRole("door")
        place.doors.add(door)
        place.need_quiet()

    def shut(self, place, door):
        if not is_subset(door, place.scene().columns):
            raise InvalidRole("door")
        if door not in place.doors:
            raise InvalidOperation("door")
        place.doors.remove(door)

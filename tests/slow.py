"""What stages 11 to 15 promise, told in slow ways of their own; and histories of changes."""

from itertools import combinations, product

from fewtouched.base.bases import Base
from fewtouched.base.scenes import Scene
from fewtouched.books.books import costs, is_quiet_book
from fewtouched.books.pieces import pieces
from tests.oracle import (role_columns, slow_bridges, slow_entries, slow_finds, slow_loud_by, slow_names, slow_number,
                          slow_strained, subsets, views_of)


def quiet_doors(scene, chance, many=2):
    """Some doors for which the book of the scene is quiet, in any order and perhaps repeated."""
    doors = [door for door in subsets(scene.columns) if not slow_strained(scene, door)]
    return tuple(chance.choice(doors) for _ in range(chance.randint(0, many)))


class Plain:
    """The rows of a scene as plain dicts from rows to times."""

    def __init__(self, base):
        self.scene = base.scene
        self.rows = {table: dict(base.rows(table)) for table in base.scene.tables}

    def change(self, table, row, many):
        times = self.rows[table].get(row, 0) + many
        assert times >= 0
        self.rows[table][row] = times
        if times == 0:
            del self.rows[table][row]

    def base(self):
        return Base.of(self.scene, {table: tuple(row for row, many in times.items() for _ in range(many))
                                    for table, times in self.rows.items()})


def some_changes(base, chance, many, integers=3, most=3):
    """So many changes that can be made one after another, triples (table, row, many); some with 0."""
    plain, found = Plain(base), []
    for _ in range(many if base.scene.changing else 0):
        table = chance.choice(base.scene.changing)
        rows = plain.rows[table]
        if rows and chance.random() < 0.5:
            row = chance.choice(sorted(rows))
            change = (table, row, -chance.randint(1, rows[row]))
        else:
            row = tuple(chance.randrange(integers) for _ in base.scene.columns_of(table))
            change = (table, row, chance.randint(0, most))
        plain.change(*change)
        found.append(change)
    return tuple(found)


def slow_total(base):
    return slow_entries(base, base.scene.tables, ()).get((), 0)


def slow_looked(base, role, integers, doors):
    """How many entries a keeper looks at for a row, or for a question."""
    if not slow_finds(base, role_columns(base.scene, role), integers, base.scene.tables):
        return 0
    return len(pieces(base.scene, role)) if isinstance(role, tuple) else costs(base.scene, doors)[role][0]


def slow_altered(before, after, views):
    """How many entries of the views differ in two bases."""
    many = 0
    for tables, columns in views:
        one, other = slow_entries(before, tables, columns), slow_entries(after, tables, columns)
        many += len([key for key in {*one, *other} if one.get(key, 0) != other.get(key, 0)])
    return many


def slow_is_twins(scene, role, value):
    """Whether the triple is twins, word by word; its parts are of the right kinds."""
    integers, first, second = value
    for base in (first, second):
        for table in scene.tables:
            if len(base.rows(table)) > 2 or any(many != 1 for many in base.rows(table).values()):
                return False
    unlike = [table for table in scene.tables if first.rows(table) != second.rows(table)]
    if len(unlike) != 1 or unlike[0] == role or unlike[0] not in scene.changing:
        return False
    rows, others = set(first.rows(unlike[0])), set(second.rows(unlike[0]))
    if len(rows - others) != 1 or len(others - rows) != 1:
        return False
    columns = role_columns(scene, role)
    found = slow_finds(first, columns, integers, scene.tables)
    if not found or found != slow_finds(second, columns, integers, scene.tables):
        return False
    names = slow_names(scene, role)
    for view in views_of(scene):
        if set(view[1]) <= names and not slow_loud_by(scene, view) and differs(first, second, view, found[0]):
            return False
    return slow_number(first, role, integers, scene.tables) != slow_number(second, role, integers, scene.tables)


def differs(first, second, view, found):
    """Whether the entries for what is found differ."""
    integers = tuple(found[column] for column in view[1])
    return slow_entries(first, *view).get(integers, 0) != slow_entries(second, *view).get(integers, 0)


def slow_telling(scene, role, value):
    """The views whose entries tell the twins apart."""
    integers, first, second = value
    found = slow_finds(first, role_columns(scene, role), integers, scene.tables)[0]
    names = slow_names(scene, role)
    return [view for view in views_of(scene) if set(view[1]) <= names and differs(first, second, view, found)]


def slow_together(scene, tables, doors):
    """Whether the book is quiet while all other tables are held."""
    return is_quiet_book(scene.held(*[table for table in scene.changing if table not in tables]), doors)


def partitions(items):
    """All ways to put the items into groups."""
    if not items:
        return [()]
    first, rest, found = items[0], items[1:], []
    for many in range(len(rest) + 1):
        for others in combinations(rest, many):
            left = tuple(item for item in rest if item not in others)
            found += [((first, *others), *more) for more in partitions(left)]
    return found


def slow_phases(scene):
    """All phases of the scene, ascending ones."""
    return sorted(tuple(sorted(phases)) for phases in partitions(scene.changing)
                  if all(slow_together(scene, phase, ()) for phase in phases))


def slow_strains(scene, doors):
    """The pairs of strained tables, then those of doors and tables."""
    pairs = [(one, other) for one, other in combinations(scene.changing, 2) if slow_bridges(scene, one, other)]
    return sorted(pairs) + sorted((door, table) for door in set(doors) for table in slow_strained(scene, door))


def slow_behind(scene, doors, step):
    """The lines and the doors behind a step; None if it is not possible."""
    lines, word = {line[0]: line for line in scene.lines}, step[0]
    doors = set(doors)
    if word == "shut":
        return (scene, tuple(sorted(doors - {step[1]}))) if step[1] in doors else None
    table, columns, key = lines.get(step[1], (None, (), ""))
    new = {"hold": key == "changing" and (table, columns, None), "free": key != "changing" and (table, columns, "changing"),
           "key": key is None and (table, columns, step[-1]),
           "unkey": isinstance(key, tuple) and (table, columns, None), "drop": len(lines) > 1 and ()}[word]
    if table is None or new is False or word == "key" and not set(step[2]) <= set(columns):
        return None
    del lines[table]
    told = Scene.of(tuple(lines.values()) + ((new,) if new else ()))
    return told, tuple(sorted(door for door in doors if set(door) <= set(told.columns)))


def slow_steps(scene, doors):
    """All possible steps, of all tuples that could be steps."""
    plain = list(product(("drop", "free", "hold", "unkey"), scene.tables))
    keys = [("key", table, key) for table in scene.tables for key in subsets(scene.columns)]
    shut = [("shut", door) for door in subsets(scene.columns)]
    return sorted([step for step in plain + keys + shut if slow_behind(scene, doors, step) is not None],
                  key=lambda step: (step[0], step[1:]))


def slow_heals(scene, doors):
    """All heals: of all sets of steps, the least ones that lead to a quiet book."""
    steps = [step for step in slow_steps(scene, doors) if step[0] in ("hold", "shut")]
    for many in range(len(steps) + 1):
        found = [some for some in combinations(steps, many) if is_quiet_behind(scene, doors, some)]
        if found:
            return found


def is_quiet_behind(scene, doors, steps):
    for step in steps:
        scene, doors = slow_behind(scene, doors, step)
    return is_quiet_book(scene, doors)

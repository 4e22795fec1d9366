"""What the document promises, told in slow ways of its own; and many small scenes and bases."""

from itertools import combinations, permutations, product
from random import Random

from fewtouched.base.bases import Base
from fewtouched.base.scenes import Scene

LETTERS = "abcdef"


def some_scenes(many, tables=6, columns=6, most=3, seed=0):
    """Small scenes of all kinds, the same ones in each run."""
    chance, found = Random(seed), []
    while len(found) < many:
        names = LETTERS[:chance.randint(1, columns)]
        lines = []
        for table in ("one", "two", "six", "ten", "red", "odd")[:chance.randint(1, tables)]:
            told = tuple(chance.sample(names, chance.randint(0, min(most, len(names)))))
            key = chance.choice(("changing", "changing", None, told[:chance.randint(0, len(told))]))
            lines.append((table, told, key))
        found.append(Scene.of(tuple(lines)))
    return found


def some_base(scene, chance, most=4, integers=3):
    """A small base of the scene, with rows that are there several times; keyed tables have what they can have."""
    rows = {}
    for table, columns, key in scene.lines:
        told = [tuple(chance.randrange(integers) for _ in columns) for _ in range(chance.randint(0, most))]
        if key not in ("changing", None):
            places = [columns.index(column) for column in key]
            told = list({tuple(row[at] for at in places): row for row in told}.values())
        rows[table] = tuple(told)
    return Base.of(scene, rows)


def columns_of(scene, tables):
    """All columns of the tables."""
    return tuple(sorted({column for table, columns, _ in scene.lines if table in tables for column in columns}))


def slow_matches(base, tables):
    """A dict of all matches with their times: each choice of a row of each table, if they agree."""
    columns, found = columns_of(base.scene, tables), {}
    for choice in product(*[base.rows(table).items() for table in tables]):
        told, times, agree = {}, 1, True
        for table, (row, many) in zip(tables, choice):
            times *= many
            for column, integer in zip(base.scene.columns_of(table), row):
                agree = agree and told.setdefault(column, integer) == integer
        if agree:
            found[tuple(told[column] for column in columns)] = times
    return {integers: found[integers] for integers in sorted(found)}


def slow_entries(base, tables, some):
    """A dict of the sums of the times of the matches, by integers for some columns."""
    columns, found = columns_of(base.scene, tables), {}
    for integers, times in slow_matches(base, tables).items():
        key = tuple(integers[columns.index(column)] for column in some)
        found[key] = found.get(key, 0) + times
    return {integers: found[integers] for integers in sorted(found)}


def subsets(names):
    """All ascending tuples of some of the names, ascending."""
    names = sorted(names)
    return sorted(choice for many in range(len(names) + 1) for choice in combinations(names, many))


def views_of(scene):
    """All views, ascending."""
    return sorted((tables, columns) for tables in subsets(scene.tables) if tables
                  for columns in subsets(columns_of(scene, tables)))


def slow_closure(scene, columns, tables):
    """The least set of columns that is closed: what all closed ones have in common."""
    least = set(scene.columns) | set(columns)
    for some in subsets(scene.columns):
        have = set(some)
        keyed = [line for line in scene.lines if line[0] in tables and line[2] not in ("changing", None)]
        if have >= set(columns) and all(have >= set(line[1]) for line in keyed if have >= set(line[2])):
            least &= have
    return tuple(sorted(least))


def slow_reached(scene, columns, tables):
    """The keyed tables whose key lies in the closure."""
    have = set(slow_closure(scene, columns, tables))
    return tuple(sorted(line[0] for line in scene.lines
                        if line[0] in tables and line[2] not in ("changing", None) and have >= set(line[2])))


def slow_finds(base, columns, integers, tables):
    """All choices of integers for the closure that agree with what is passed, and with a row of each reached table."""
    scene = base.scene
    closed = slow_closure(scene, columns, tables)
    reached = slow_reached(scene, columns, tables)
    choices = []
    for rows in product(*[base.rows(table) for table in reached]):
        told = dict(zip(columns, integers))
        agree = all(told.setdefault(column, integer) == integer for table, row in zip(reached, rows)
                    for column, integer in zip(scene.columns_of(table), row))
        if agree:
            choices.append({column: told[column] for column in closed})
    return choices


def roles_of(scene):
    """All roles: tables that change, and all doors."""
    return [*scene.changing, *subsets(scene.columns)]


def role_columns(scene, role):
    return scene.columns_of(role) if isinstance(role, str) else role


def orders(items):
    """All tuples of different items, of each number."""
    return [order for many in range(len(items) + 1) for order in permutations(items, many)]

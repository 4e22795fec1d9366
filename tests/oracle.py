"""What the document promises, told in slow ways of its own; and many small scenes and bases."""

from functools import lru_cache
from itertools import combinations, permutations, product
from random import Random

from fewtouched.base.bases import Base
from fewtouched.base.scenes import Scene

LETTERS = "abcdef"


def some_scenes(many, tables=6, columns=6, most=3, seed=0):
    """Small scenes of all kinds, the same ones in each run."""
    chance, found = Random(seed), []
    while len(found) < many:
        names = LETTERS[:chance.randint(1, columns)]
        lines = []
        for table in ("one", "two", "six", "ten", "red", "odd")[:chance.randint(1, tables)]:
            told = tuple(chance.sample(names, chance.randint(0, min(most, len(names)))))
            key = chance.choice(("changing", "changing", None, told[:chance.randint(0, len(told))]))
            lines.append((table, told, key))
        found.append(Scene.of(tuple(lines)))
    return found


def some_base(scene, chance, most=4, integers=3):
    """A small base of the scene, with rows that are there several times; keyed tables have what they can have."""
    rows = {}
    for table, columns, key in scene.lines:
        told = [tuple(chance.randrange(integers) for _ in columns) for _ in range(chance.randint(0, most))]
        if key not in ("changing", None):
            places = [columns.index(column) for column in key]
            told = list({tuple(row[at] for at in places): row for row in told}.values())
        rows[table] = tuple(told)
    return Base.of(scene, rows)


def columns_of(scene, tables):
    """All columns of the tables."""
    return tuple(sorted({column for table, columns, _ in scene.lines if table in tables for column in columns}))


def slow_matches(base, tables):
    """A dict of all matches with their times: each choice of a row of each table, if they agree."""
    columns, found = columns_of(base.scene, tables), {}
    for choice in product(*[base.rows(table).items() for table in tables]):
        told, times, agree = {}, 1, True
        for table, (row, many) in zip(tables, choice):
            times *= many
            for column, integer in zip(base.scene.columns_of(table), row):
                agree = agree and told.setdefault(column, integer) == integer
        if agree:
            found[tuple(told[column] for column in columns)] = times
    return {integers: found[integers] for integers in sorted(found)}


def slow_entries(base, tables, some):
    """A dict of the sums of the times of the matches, by integers for some columns."""
    columns, found = columns_of(base.scene, tables), {}
    for integers, times in slow_matches(base, tables).items():
        key = tuple(integers[columns.index(column)] for column in some)
        found[key] = found.get(key, 0) + times
    return {integers: found[integers] for integers in sorted(found)}


def subsets(names):
    """All ascending tuples of some of the names, ascending."""
    names = sorted(names)
    return sorted(choice for many in range(len(names) + 1) for choice in combinations(names, many))


def views_of(scene):
    """All views, ascending."""
    return sorted((tables, columns) for tables in subsets(scene.tables) if tables
                  for columns in subsets(columns_of(scene, tables)))


def slow_closure(scene, columns, tables):
    """The least set of columns that is closed: what all closed ones have in common."""
    least = set(scene.columns) | set(columns)
    for some in subsets(scene.columns):
        have = set(some)
        keyed = [line for line in scene.lines if line[0] in tables and line[2] not in ("changing", None)]
        if have >= set(columns) and all(have >= set(line[1]) for line in keyed if have >= set(line[2])):
            least &= have
    return tuple(sorted(least))


def slow_reached(scene, columns, tables):
    """The keyed tables whose key lies in the closure."""
    have = set(slow_closure(scene, columns, tables))
    return tuple(sorted(line[0] for line in scene.lines
                        if line[0] in tables and line[2] not in ("changing", None) and have >= set(line[2])))


def slow_finds(base, columns, integers, tables):
    """All choices of integers for the closure that agree with what is passed, and with a row of each reached table."""
    scene = base.scene
    closed = slow_closure(scene, columns, tables)
    reached = slow_reached(scene, columns, tables)
    choices = []
    for rows in product(*[base.rows(table) for table in reached]):
        told = dict(zip(columns, integers))
        agree = all(told.setdefault(column, integer) == integer for table, row in zip(reached, rows)
                    for column, integer in zip(scene.columns_of(table), row))
        if agree:
            choices.append({column: told[column] for column in closed})
    return choices


def roles_of(scene):
    """All roles: tables that change, and all doors."""
    return [*scene.changing, *subsets(scene.columns)]


def role_columns(scene, role):
    return scene.columns_of(role) if isinstance(role, str) else role


def orders(items):
    """All tuples of different items, of each number."""
    return [order for many in range(len(items) + 1) for order in permutations(items, many)]


# Stages 7 to 10

@lru_cache(maxsize=None)
def closed(lines, columns, tables):
    return slow_closure(Scene.of(lines), columns, tables)


def slow_names(scene, role):
    return set(closed(scene.lines, role_columns(scene, role), scene.tables))


def slow_loud_by(scene, view):
    """The tables of the view that change, and the closure of whose columns lacks a column of the view."""
    return tuple(table for table in view[0] if table in scene.changing
                 and not set(view[1]) <= set(closed(scene.lines, scene.columns_of(table), view[0])))


def slow_bridges(scene, role, table):
    """All tuples of different tables that are bridges, in their order."""
    mine, others = slow_names(scene, role), slow_names(scene, table)
    has = {one: set(scene.columns_of(one)) for one in scene.tables}
    return [path for path in orders(scene.tables) if path and has[path[0]] & (mine - others)
            and has[path[-1]] & (others - mine)
            and all((has[one] & has[other]) - mine - others for one, other in zip(path, path[1:]))]


def slow_strained(scene, role):
    """The tables with which the role is strained."""
    return tuple(table for table in scene.changing if table != role and slow_bridges(scene, role, table))


def slow_pieces(scene, role, given):
    """The groups of the other tables that hang together by columns outside of the closure."""
    inner = set(closed(scene.lines, role_columns(scene, role), given))
    outer = {table: set(scene.columns_of(table)) - inner for table in given if table != role}
    groups = {table: {table} for table in outer}
    for _ in outer:
        for table in outer:
            groups[table] |= {more for other in outer if outer[table] & outer[other] for more in groups[other]}
    return tuple(sorted({tuple(sorted(group)) for group in groups.values()}))


def slow_piece_view(scene, role, piece, given):
    """The closed piece, and the columns with which it begins."""
    inner = set(closed(scene.lines, role_columns(scene, role), given))
    begin = tuple(sorted(set(columns_of(scene, piece)) & inner))
    return tuple(sorted({*piece, *slow_reached(scene, begin, given)})), begin


def slow_leads(scene, view):
    """The views to which a view of a book leads, by tables that change."""
    return {table: tuple(slow_piece_view(scene, table, piece, view[0]) for piece in slow_pieces(scene, table, view[0]))
            for table in view[0] if table in scene.changing}


def slow_first_views(scene, doors):
    """The views that are in a book whatever else is."""
    return {(scene.tables, ())} | {slow_piece_view(scene, door, piece, scene.tables) for door in doors
                                   for piece in slow_pieces(scene, door, scene.tables)}


def slow_book(scene, doors):
    """The least set of views that is closed, from the first views on."""
    views = slow_first_views(scene, doors)
    while True:
        more = {one for view in views for told in slow_leads(scene, view).values() for one in told}
        if more <= views:
            return tuple(sorted(views))
        views |= more


def slow_number(base, role, integers, given):
    """The sum of the times of the matches that the row brings, or that agree with the integers."""
    if isinstance(role, str):
        base = Base.of(base.scene, {**{table: tuple(row for row, many in base.rows(table).items() for _ in range(many))
                                       for table in base.scene.tables}, role: (integers,)})
    columns, told = columns_of(base.scene, given), dict(zip(role_columns(base.scene, role), integers))
    return sum(times for match, times in slow_matches(base, given).items()
               if all(told.get(column, integer) == integer for column, integer in zip(columns, match)))

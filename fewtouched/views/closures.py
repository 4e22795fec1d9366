"""Closures of columns in tables, and what a role finds among them."""

from fewtouched.base.bases import need_base
from fewtouched.base.checks import columns_of_role, need_columns, need_integers, need_role, need_scene, need_tables


def closure(scene, columns, tables):
    """The closure of the columns in the tables."""
    _need_all(scene, columns, tables)
    return closure_in(scene, columns, tables)


def reached(scene, columns, tables):
    """The tables, ascending, whose key lies in the closure of the columns."""
    _need_all(scene, columns, tables)
    return tuple(sorted(steps_in(scene, columns, tables)))


def key_steps(scene, columns, tables):
    """The reached tables in the order in which they are used."""
    _need_all(scene, columns, tables)
    return steps_in(scene, columns, tables)


def names_of(scene, role):
    """The closure of the columns of the role in all tables."""
    need_scene(scene)
    need_role(scene, role)
    return closure_in(scene, columns_of_role(scene, role), scene.tables)


def finds(base, role, integers, *, tables=None):
    """What the role finds among the tables: a dict from the columns of the closure to integers, or None."""
    need_base(base)
    need_role(base.scene, role)
    need_integers(columns_of_role(base.scene, role), integers)
    if tables is not None:
        need_tables(base.scene, tables)
    return found_in(base, role, integers, base.scene.tables if tables is None else tables)


def steps_in(scene, columns, tables):
    """As key_steps, for columns and tables that are known to be right; the tables can be none, too."""
    have = {column: True for column in columns}
    steps = []
    table = _next_step(scene, have, tables, steps)
    while table is not None:
        steps.append(table)
        for column in scene.columns_of(table):
            have[column] = True
        table = _next_step(scene, have, tables, steps)
    return tuple(steps)


def closure_in(scene, columns, tables):
    """As closure, for columns and tables that are known to be right; the tables can be none, too."""
    more = [column for table in steps_in(scene, columns, tables) for column in scene.columns_of(table)]
    return tuple(sorted({column for column in [*columns, *more]}))


def found_in(base, role, integers, tables):
    """As finds, for arguments that are known to be right."""
    scene = base.scene
    columns = columns_of_role(scene, role)
    found = dict(zip(columns, integers))
    for table in steps_in(scene, columns, tables):
        row = _row_agreeing(base, table, found)
        if row is None:
            return None
        for column, integer in zip(scene.columns_of(table), row):
            found[column] = integer
    return {column: found[column] for column in sorted(found)}


def _next_step(scene, have, tables, used):
    """The least table that has not been used and whose key lies in what one has; None if there is none."""
    for table in tables:
        key = scene.key_of(table)
        if key is not None and table not in used and all([column in have for column in key]):
            return table
    return None


def _row_agreeing(base, table, found):
    """The row of a reached table that agrees with what is found so far; its key leaves at most one."""
    tests = [(at, found[column]) for at, column in enumerate(base.scene.columns_of(table)) if column in found]
    for row in base.rows(table):
        if all([row[at] == integer for at, integer in tests]):
            return row
    return None


def _need_all(scene, columns, tables):
    need_scene(scene)
    need_columns(scene, columns)
    need_tables(scene, tables)

"""Twins: two bases that no quiet view tells apart, although they answer a role differently."""

from fewtouched.base.bases import Base
from fewtouched.base.checks import columns_of_role, columns_of_tables, need_changing, need_role, need_scene, need_table
from fewtouched.base.names import fits
from fewtouched.books.pieces import number_by
from fewtouched.errors import InvalidOperation
from fewtouched.strain.bridges import is_bridge, tables_straining
from fewtouched.views.closures import closure_in, found_in
from fewtouched.views.views import all_views, choices, entry_of

# The numbers i and j that columns show in the two rows of a table whose columns show both.
NEAR = (0, 1)
FAR = (1, 2)


def number_of(base, role, integers):
    """The number of the role: by how much the total rises by the row, or the answer at the door."""
    return number_by(base, role, integers)


def twins(scene, role):
    """Any twins of the role; None if it is served."""
    need_scene(scene)
    need_role(scene, role)
    straining = tables_straining(scene, role)
    if len(straining) == 0:
        return None
    return _twins_in(scene, role, straining[0])


def twins_along(scene, role, table, bridge):
    """Any twins of the role that differ in the table to which the bridge leads."""
    need_scene(scene)
    need_role(scene, role)
    need_table(scene, table)
    need_changing(scene, table)
    if not is_bridge(scene, role, table, bridge):
        raise InvalidOperation("it is no bridge between the role and the table")
    return _twins_in(scene, role, table)


def is_twins(scene, role, value):
    """Whether the value is twins of the role."""
    need_scene(scene)
    need_role(scene, role)
    if not _has_form(scene, role, value):
        return False
    integers, first, second = value
    found = found_in(first, role, integers, scene.tables)
    if found is None or found != found_in(second, role, integers, scene.tables):
        return False
    if number_by(first, role, integers) == number_by(second, role, integers):
        return False
    quiet = _quiet_with(scene, found, _differing(first, second)[0])
    return all([_entry_found(first, view, found) == _entry_found(second, view, found) for view in quiet])


def telling_views(scene, role, value):
    """A generator of the views, ascending, with names of the role, whose entries differ in the two bases of twins."""
    if not is_twins(scene, role, value):
        raise InvalidOperation("it is no twins of the role")
    integers, first, second = value
    found = found_in(first, role, integers, scene.tables)
    for view in all_views(scene):
        if all([column in found for column in view[1]]):
            if _entry_found(first, view, found) != _entry_found(second, view, found):
                yield view


def _twins_in(scene, role, table):
    """Twins of the role that differ in a table with which it is strained."""
    near, far = {}, {}
    names = closure_in(scene, columns_of_role(scene, role), scene.tables)
    others = closure_in(scene, scene.columns_of(table), scene.tables)
    for column in scene.columns:
        near[column] = _shown(NEAR, column not in others, column not in names)
        far[column] = _shown(FAR, column not in others, column not in names)
    still = [other for other in scene.tables if other not in (role, table)]
    rows = {other: tuple(sorted({_row(scene, other, told) for told in (near, far)})) for other in still}
    first = Base.of(scene, {**rows, table: (_row(scene, table, near),)})
    second = Base.of(scene, {**rows, table: (_row(scene, table, far),)})
    return tuple([near[column] for column in columns_of_role(scene, role)]), first, second


def _shown(numbers, shows_first, shows_second):
    """What a column shows of two numbers; those that show both differ, too, as both numbers are greater in FAR."""
    return (numbers[0] if shows_first else 0) + (numbers[1] if shows_second else 0)


def _row(scene, table, told):
    return tuple([told[column] for column in scene.columns_of(table)])


def _has_form(scene, role, value):
    """Whether the value is integers for the role and two bases that differ as those of twins do."""
    if not isinstance(value, tuple) or len(value) != 3 or not fits(columns_of_role(scene, role), value[0]):
        return False
    if not _is_little(scene, value[1]) or not _is_little(scene, value[2]):
        return False
    differing = _differing(value[1], value[2])
    if len(differing) != 1 or differing[0] == role or differing[0] not in scene.changing:
        return False
    rows, others = value[1].rows(differing[0]), value[2].rows(differing[0])
    left = [row for row in rows if row not in others]
    return len(left) == 1 and len([row for row in others if row not in rows]) == 1


def _is_little(scene, base):
    """Whether it is a base of the scene with at most two rows in each table, each there once."""
    if not isinstance(base, Base) or base.scene != scene:
        return False
    times = [base.rows(table) for table in scene.tables]
    return all([len(told) <= 2 and all([many == 1 for many in told.values()]) for told in times])


def _differing(first, second):
    """The tables in which the bases differ."""
    return [table for table in first.scene.tables if first.rows(table) != second.rows(table)]


def _quiet_with(scene, names, table):
    """The quiet views with this table, and with some of the names as columns."""
    views = []
    for tables in choices(scene.tables):
        if table in tables:
            known = columns_of_tables(scene, tables)
            inner = [closure_in(scene, scene.columns_of(one), tables) for one in tables if one in scene.changing]
            quiet = [column for column in known if column in names and all([column in told for told in inner])]
            views = [*views, *[(tables, columns) for columns in choices(quiet)]]
    return views


def _entry_found(base, view, found):
    """The entry of the view for what is found."""
    return entry_of(base, view, tuple([found[column] for column in view[1]]))

"""Quiet views, and what makes the others loud."""

from fewtouched.base.bases import Base
from fewtouched.base.checks import need_changing, need_number, need_scene, need_table
from fewtouched.base.names import fits
from fewtouched.base.sums import are_more, parts_with
from fewtouched.errors import InvalidOperation, TooMany
from fewtouched.views.closures import closure_in
from fewtouched.views.views import all_views, need_view

MOST_LOUD = 60


def is_quiet(scene, view):
    """Whether no change of any base alters more than one entry of the view."""
    need_scene(scene)
    need_view(scene, view)
    return is_quiet_view(scene, view)


def loud_by(scene, view):
    """The tables, ascending, that make the view loud."""
    need_scene(scene)
    need_view(scene, view)
    return _loud_tables(scene, view)


def quiet_views(scene):
    """A generator of all quiet views of the scene, ascending."""
    need_scene(scene)
    for view in all_views(scene):
        if is_quiet_view(scene, view):
            yield view


def loud_base(scene, view, table, many):
    """A pair (base, row) such that so many entries are altered by the row; None if the table makes nothing loud."""
    _need_all(scene, view, table, many)
    if table not in _loud_tables(scene, view):
        return None
    inner = closure_in(scene, scene.columns_of(table), view[0])
    rows = {other: _spread_rows(scene, other, inner, many) for other in view[0] if other != table}
    return Base.of(scene, rows), tuple([0 for _ in scene.columns_of(table)])


def is_loud_base(scene, view, table, many, value):
    """Whether the value is a pair (base, row) such that at least so many entries are altered by the row."""
    _need_all(scene, view, table, many)
    if not isinstance(value, tuple) or len(value) != 2:
        return False
    base, row = value
    if not isinstance(base, Base) or base.scene != scene or not fits(scene.columns_of(table), row):
        return False
    return many == 0 or are_more(parts_with(base, view[0], table, row), view[1], many - 1)


def is_quiet_view(scene, view):
    """As is_quiet, for a view that is known to be right."""
    return len(_loud_tables(scene, view)) == 0


def _loud_tables(scene, view):
    tables, columns = view
    return tuple([table for table in tables if table in scene.changing and _lacks(scene, table, tables, columns)])


def _lacks(scene, table, tables, columns):
    """Whether the closure of the table's columns lacks one of these columns."""
    inner = closure_in(scene, scene.columns_of(table), tables)
    return not all([column in inner for column in columns])


def _spread_rows(scene, table, inner, many):
    """Rows that take so many integers, at least one, in columns that are not inner ones, each the same in a row."""
    columns = scene.columns_of(table)
    integers = range(max(many, 1))
    return tuple(sorted({tuple([0 if column in inner else at for column in columns]) for at in integers}))


def _need_all(scene, view, table, many):
    need_scene(scene)
    need_view(scene, view)
    need_table(scene, table)
    need_number(many)
    need_changing(scene, table)
    if table not in view[0]:
        raise InvalidOperation("the table is not in the view")
    if many > MOST_LOUD:
        raise TooMany(MOST_LOUD)

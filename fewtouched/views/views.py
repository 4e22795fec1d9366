"""Views, their entries, and how a change alters them."""

from fewtouched.base.bases import need_base
from fewtouched.base.checks import (columns_of_tables, is_tables, need_changing, need_integers, need_row, need_scene,
                                    need_table)
from fewtouched.base.names import is_columns
from fewtouched.base.sums import agreeing, parts_of, parts_with, sums_up_to, total
from fewtouched.errors import InvalidView

MAX_ENTRIES = 10000


def is_view(scene, value):
    """Whether the value is a view of the scene."""
    need_scene(scene)
    if not isinstance(value, tuple) or len(value) != 2:
        return False
    tables, columns = value
    if not is_tables(scene, tables) or not is_columns(columns):
        return False
    known = columns_of_tables(scene, tables)
    return all([column in known for column in columns])


def all_views(scene):
    """A generator of all views of the scene, ascending."""
    need_scene(scene)
    tables_of_scene = scene.tables
    for tables in choices(tables_of_scene):
        if len(tables) > 0:
            known = columns_of_tables(scene, tables)
            for columns in choices(known):
                yield tables, columns


def entry(base, view, integers):
    """The entry of the view for integers for its columns."""
    need_base(base)
    need_view(base.scene, view)
    need_integers(view[1], integers)
    return entry_of(base, view, integers)


def entries(base, view):
    """A dict from the integers with entries above 0 to these entries."""
    need_base(base)
    need_view(base.scene, view)
    return sums_up_to(parts_of(base, view[0]), view[1], MAX_ENTRIES)


def altered(base, view, table, row):
    """A dict from integers for the columns of the view to how much their entries rise if the row is put in once."""
    need_base(base)
    need_view(base.scene, view)
    need_table(base.scene, table)
    need_row(base.scene, table, row)
    need_changing(base.scene, table)
    if table not in view[0]:
        return {}
    return sums_up_to(parts_with(base, view[0], table, row), view[1], MAX_ENTRIES)


def need_view(scene, value):
    """InvalidView if it is no view of the scene."""
    if not is_view(scene, value):
        raise InvalidView("a view is a pair of tables of the scene and some of their columns")


def entry_of(base, view, integers):
    """As entry, for arguments that are known to be right."""
    tables, columns = view
    told = dict(zip(columns, integers))
    return total(agreeing(parts_of(base, tables), told))


def choices(names):
    """A generator of all tuples of some of the names in their order, also of none: ascending if the names are."""
    yield ()
    for at, name in enumerate(names):
        rest = names[at + 1:]
        for more in choices(rest):
            yield (name, *more)

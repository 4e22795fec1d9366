"""Books: the views by which all others of them are followed."""

from fewtouched.base.checks import need_doors, need_role, need_scene
from fewtouched.books.pieces import views_among
from fewtouched.errors import InvalidOperation
from fewtouched.strain.bridges import first_bridge, tables_straining
from fewtouched.views.quiet import is_quiet_view
from fewtouched.views.views import is_view


def book(scene, doors=()):
    """The views of the book, ascending."""
    need_scene(scene)
    need_doors(scene, doors)
    return book_of(scene, doors)


def is_book(scene, doors, value):
    """Whether the value is an ascending tuple of views that has all views to which it leads."""
    need_scene(scene)
    need_doors(scene, doors)
    if not isinstance(value, tuple) or not all([is_view(scene, view) for view in value]):
        return False
    if not all([one < following for one, following in zip(value, value[1:])]):
        return False
    known = {view: True for view in value}
    needed = [*_first_views(scene, doors), *[more for view in value for more in _next_views(scene, view)]]
    return all([view in known for view in needed])


def loud_views(scene, doors=()):
    """The loud views of the book, ascending."""
    need_scene(scene)
    need_doors(scene, doors)
    return _loud(scene, doors)


def is_quiet_book(scene, doors=()):
    """Whether no view of the book is loud."""
    need_scene(scene)
    need_doors(scene, doors)
    return len(_loud(scene, doors)) == 0


def first_strained(scene, doors=()):
    """A triple (role, table, bridge) of the first role that is strained; None if all are served."""
    need_scene(scene)
    need_doors(scene, doors)
    for role in [*scene.changing, *distinct(doors)]:
        straining = tables_straining(scene, role)
        if len(straining) > 0:
            return role, straining[0], first_bridge(scene, role, straining[0])
    return None


def costs(scene, doors=()):
    """A dict from tables that change, then doors, to pairs: how many entries are looked at, and altered."""
    need_scene(scene)
    need_doors(scene, doors)
    told = {table: (0, 0) for table in scene.changing}
    for view in book_of(scene, doors):
        for table, views in _leads(scene, view):
            looked, altered = told[table]
            told[table] = (looked + len(views), altered + 1)
    for door in distinct(doors):
        told[door] = (len(views_among(scene, door, scene.tables)), 0)
    return told


def looked_views(scene, role, doors=()):
    """The different views, ascending, at which the role looks."""
    need_scene(scene)
    need_role(scene, role)
    need_doors(scene, doors)
    if isinstance(role, str):
        leads = [lead for view in book_of(scene, doors) for lead in _leads(scene, view)]
        return tuple(sorted({view for table, views in leads if table == role for view in views}))
    if role not in doors:
        raise InvalidOperation("it is not one of the doors")
    return tuple(sorted({view for view in views_among(scene, role, scene.tables)}))


def followed(scene, doors=()):
    """A generator of triples (view, role, views): by which views the view is followed, or the door answered."""
    need_scene(scene)
    need_doors(scene, doors)
    for door in distinct(doors):
        yield (scene.tables, door), door, views_among(scene, door, scene.tables)
    for view in book_of(scene, doors):
        for table, views in _leads(scene, view):
            yield view, table, views


def book_of(scene, doors):
    """As book, for arguments that are known to be right."""
    found = {}
    waiting = _first_views(scene, doors)
    while len(waiting) > 0:
        view = waiting.pop()
        if view not in found:
            found[view] = True
            waiting = [*waiting, *_next_views(scene, view)]
    return tuple(sorted(found))


def _first_views(scene, doors):
    """The views that are in the book whatever else is in it."""
    of_doors = [view for door in distinct(doors) for view in views_among(scene, door, scene.tables)]
    return [(scene.tables, ()), *of_doors]


def _next_views(scene, view):
    """The views that are in the book if this one is."""
    return [more for lead in _leads(scene, view) for more in lead[1]]


def _leads(scene, view):
    """A pair for each table of the view that changes: the table, and the views of the pieces of the view's tables."""
    tables = view[0]
    return [(table, views_among(scene, table, tables)) for table in tables if table in scene.changing]


def _loud(scene, doors):
    return tuple([view for view in book_of(scene, doors) if not is_quiet_view(scene, view)])


def distinct(doors):
    """The doors without repeats, ascending."""
    return tuple(sorted({door for door in doors}))

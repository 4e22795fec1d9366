"""Pieces of tables for a role, their views, and the number of the role."""

from fewtouched.base.bases import need_base
from fewtouched.base.checks import columns_of_role, need_integers, need_role, need_scene, need_tables
from fewtouched.base.sums import agreeing, hanging_together, parts_of, parts_with, total
from fewtouched.errors import InvalidOperation
from fewtouched.views.closures import closure_in, found_in, steps_in
from fewtouched.views.views import entry_of


def pieces(scene, role, *, tables=None):
    """All pieces of the given tables for the role, ordered by their least tables."""
    need_scene(scene)
    need_role(scene, role)
    return pieces_among(scene, role, _given(scene, role, tables))


def closed_piece(scene, role, piece, *, tables=None):
    """The tables, ascending, of the closed piece."""
    need_scene(scene)
    need_role(scene, role)
    given = _given(scene, role, tables)
    if piece not in pieces_among(scene, role, given):
        raise InvalidOperation("it is not one of the pieces")
    return _view_of_piece(scene, role, piece, given)[0]


def piece_views(scene, role, *, tables=None):
    """The views of the pieces, in the order of the pieces."""
    need_scene(scene)
    need_role(scene, role)
    return views_among(scene, role, _given(scene, role, tables))


def number_by(base, role, integers, *, tables=None):
    """The number of the role in the given tables, for integers for its columns."""
    given = _given_in(base, role, integers, tables)
    if isinstance(role, str):
        return total(parts_with(base, given, role, integers))
    told = dict(zip(role, integers))
    return total(agreeing(parts_of(base, given), told))


def factors(base, role, integers, *, tables=None):
    """A triple (view, integers, entry) for each piece, in their order; None if the role finds nothing."""
    given = _given_in(base, role, integers, tables)
    found = found_in(base, role, integers, given)
    if found is None:
        return None
    triples = []
    for view in views_among(base.scene, role, given):
        told = tuple([found[column] for column in view[1]])
        triples.append((view, told, entry_of(base, view, told)))
    return tuple(triples)


def pieces_among(scene, role, given):
    """As pieces, for arguments that are known to be right."""
    inner = _inner_columns(scene, role, given)
    others = [table for table in given if table != role]
    outer = [[column for column in scene.columns_of(table) if column not in inner] for table in others]
    return tuple([tuple([others[at] for at in places]) for places in hanging_together(outer)])


def views_among(scene, role, given):
    """As piece_views, for arguments that are known to be right."""
    return tuple([_view_of_piece(scene, role, piece, given) for piece in pieces_among(scene, role, given)])


def _view_of_piece(scene, role, piece, given):
    """The tables of the closed piece, and the columns with which it begins."""
    inner = _inner_columns(scene, role, given)
    begin = tuple(sorted({column for table in piece for column in scene.columns_of(table) if column in inner}))
    added = steps_in(scene, begin, given)
    return tuple(sorted({table for table in [*piece, *added]})), begin


def _inner_columns(scene, role, given):
    """The closure of the role's columns in the given tables."""
    return closure_in(scene, columns_of_role(scene, role), given)


def _given(scene, role, tables):
    """The given tables, among which a role that is a table has to be."""
    if tables is None:
        return scene.tables
    need_tables(scene, tables)
    if isinstance(role, str) and role not in tables:
        raise InvalidOperation("the role is not one of the tables")
    return tables


def _given_in(base, role, integers, tables):
    """The given tables of a base, with checks of all arguments."""
    need_base(base)
    need_role(base.scene, role)
    need_integers(columns_of_role(base.scene, role), integers)
    return _given(base.scene, role, tables)

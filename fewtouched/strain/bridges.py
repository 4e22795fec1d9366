"""Bridges, and which roles they strain."""

from fewtouched.base.checks import columns_of_role, need_changing, need_role, need_scene, need_table
from fewtouched.base.names import have_common
from fewtouched.errors import InvalidOperation
from fewtouched.views.closures import closure_in


def bridge(scene, role, table):
    """The first bridge between the role and the table; None if there is none."""
    _need_all(scene, role, table)
    return first_bridge(scene, role, table)


def bridges(scene, role, table):
    """A generator of all bridges between the role and the table: fewer tables first, then ascending."""
    _need_all(scene, role, table)
    yield from bridges_between(scene, role, table)


def is_bridge(scene, role, table, value):
    """Whether the value is a bridge between the role and the table."""
    _need_all(scene, role, table)
    if not isinstance(value, tuple) or len(value) == 0 or not all([part in scene for part in value]):
        return False
    starts, ends, follows = _ways(scene, role, table)
    if value[0] not in starts or value[-1] not in ends or len({part for part in value}) < len(value):
        return False
    return all([other in follows[one] for one, other in zip(value, value[1:])])


def strains(scene):
    """The pairs of strained tables, ascending, the lesser name first."""
    need_scene(scene)
    pairs = [(one, other) for one in scene.changing for other in scene.changing if one < other]
    return tuple([(one, other) for one, other in pairs if _is_strained(scene, one, other)])


def strained_tables(scene, role):
    """The tables, ascending, with which the role is strained."""
    need_scene(scene)
    need_role(scene, role)
    return tables_straining(scene, role)


def is_served(scene, role):
    """Whether the role is strained with no table."""
    need_scene(scene)
    need_role(scene, role)
    return len(tables_straining(scene, role)) == 0


def tables_straining(scene, role):
    """As strained_tables, for a role that is known to be right."""
    return tuple([table for table in scene.changing if table != role and _is_strained(scene, role, table)])


def first_bridge(scene, role, table):
    """As bridge, for arguments that are known to be right."""
    for found in bridges_between(scene, role, table):
        return found
    return None


def bridges_between(scene, role, table):
    """As bridges, for arguments that are known to be right."""
    starts, ends, follows = _ways(scene, role, table)
    for many in range(1, len(scene.tables) + 1):
        for start in starts:
            first = (start,)
            for path in paths_on(first, follows, many):
                if path[-1] in ends:
                    yield path


def paths_on(path, follows, many):
    """A generator of all ways to go on to so many different tables, ascending."""
    if len(path) == many:
        yield path
        return
    for table in follows[path[-1]]:
        if table not in path:
            longer = (*path, table)
            yield from paths_on(longer, follows, many)


def _is_strained(scene, role, table):
    """Whether there is a bridge. A table that is reached in any way is reached by different tables, too."""
    starts, ends, follows = _ways(scene, role, table)
    reached = {}
    waiting = list(starts)
    while len(waiting) > 0:
        one = waiting.pop()
        if one not in reached:
            reached[one] = True
            waiting = [*waiting, *follows[one]]
    return any([one in reached for one in ends])


def _ways(scene, role, table):
    """The tables with which a bridge can begin, those with which it can end, and which ones can follow each."""
    names = closure_in(scene, columns_of_role(scene, role), scene.tables)
    others = closure_in(scene, scene.columns_of(table), scene.tables)
    near = [column for column in names if column not in others]
    far = [column for column in others if column not in names]
    between = [column for column in scene.columns if column not in names and column not in others]
    columns_of = {one: scene.columns_of(one) for one in scene.tables}
    starts = [one for one in scene.tables if have_common(columns_of[one], near)]
    ends = [one for one in scene.tables if have_common(columns_of[one], far)]
    inner = {one: [column for column in columns_of[one] if column in between] for one in scene.tables}
    follows = {one: [other for other in scene.tables if other != one and have_common(inner[one], inner[other])]
               for one in scene.tables}
    return starts, ends, follows


def _need_all(scene, role, table):
    need_scene(scene)
    need_role(scene, role)
    need_table(scene, table)
    need_changing(scene, table)
    if table == role:
        raise InvalidOperation("the table is the role")

"""Which doors are served, and which tables can change together."""

from fewtouched.base.checks import is_tables, need_doors, need_scene
from fewtouched.books.books import distinct
from fewtouched.errors import InvalidOperation
from fewtouched.strain.bridges import strains, tables_straining
from fewtouched.views.views import choices


def served_doors(scene):
    """A generator of all doors that are served, ascending."""
    need_scene(scene)
    columns = scene.columns
    for door in choices(columns):
        if len(tables_straining(scene, door)) == 0:
            yield door


def together(scene, tables, *, doors=()):
    """Whether these tables go together for the doors."""
    need_scene(scene)
    if tables != () and not is_tables(scene, tables) or not all([table in scene.changing for table in tables]):
        raise InvalidOperation("tables are an ascending tuple of tables that change, perhaps none")
    need_doors(scene, doors)
    return tables in _all_together(scene, doors)


def greatest_together(scene, *, doors=()):
    """The greatest tuples of tables that go together for the doors, ascending."""
    need_scene(scene)
    need_doors(scene, doors)
    return _greatest(scene, doors)


def least_still(scene, *, doors=()):
    """The least tuples of tables that can be held so that all others go together, ascending."""
    need_scene(scene)
    need_doors(scene, doors)
    greatest = _greatest(scene, doors)
    still = [tuple([table for table in scene.changing if table not in tables]) for tables in greatest]
    return tuple(sorted(still))


def fewest_phases(scene):
    """The least of all ascending phases that are as few as possible."""
    need_scene(scene)
    pairs = strains(scene)
    ways = [()]
    for table in scene.changing:
        ways = [longer for phases in ways for longer in _with_table(phases, table, pairs)]
    return min([(len(phases), phases) for phases in ways])[1]


def is_phases(scene, value):
    """Whether the value is phases of the scene, in any order."""
    need_scene(scene)
    if not isinstance(value, tuple) or not all([is_tables(scene, phase) for phase in value]):
        return False
    if sorted([table for phase in value for table in phase]) != list(scene.changing):
        return False
    pairs = strains(scene)
    return all([_are_apart(phase, pairs) for phase in value])


def _all_together(scene, doors):
    """All tuples of tables that go together for the doors, ascending."""
    strained = {table: True for door in distinct(doors) for table in tables_straining(scene, door)}
    free, pairs = [table for table in scene.changing if table not in strained], strains(scene)
    return [tuple(tables) for tables in choices(free) if _are_apart(tables, pairs)]


def _are_apart(tables, pairs):
    """Whether no two of the tables are one of the pairs."""
    return not any([one in tables and other in tables for one, other in pairs])


def _greatest(scene, doors):
    found = _all_together(scene, doors)
    return tuple([tables for tables in found if not any([_is_less(tables, more) for more in found])])


def _is_less(tables, more):
    """Whether all of these tables are among more."""
    return len(tables) < len(more) and all([table in more for table in tables])


def _with_table(phases, table, pairs):
    """The ways to put one more table into one of the phases, or into a new one; it is greater than all in them."""
    ways = [(*phases, (table,))]
    for at, phase in enumerate(phases):
        longer = (*phase, table)
        if _are_apart(longer, pairs):
            ways.append((*phases[:at], longer, *phases[at + 1:]))
    return ways

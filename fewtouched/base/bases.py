"""Bases: the rows of the tables of a scene, each a number of times."""

from fewtouched.base.checks import need_changing, need_number, need_row, need_scene, need_table
from fewtouched.base.names import fits
from fewtouched.base.scenes import Scene
from fewtouched.errors import InvalidBase, InvalidOperation, NotThere, TooMany

MAX_ROWS = 400


class Base:
    """At most 400 different rows in all tables of a scene. It never changes."""

    def __init__(self, scene, **rows):
        need_scene(scene)
        self._scene = scene
        self._times = _times_told(scene, rows)

    @classmethod
    def of(cls, scene, rows):
        """The base with the rows of a dict, which can have tables such as self."""
        base = cls(scene)
        base._times = _times_told(scene, rows)
        return base

    @property
    def scene(self):
        """The scene of the base."""
        return self._scene

    @property
    def size(self):
        """The number of different rows in all tables."""
        return len(self)

    def rows(self, table):
        """A dict from the rows of a table, ascending, to their times."""
        need_table(self._scene, table)
        times = self._times[table]
        return {row: times[row] for row in times}

    def times(self, table, row):
        """How often a row is there, perhaps 0."""
        need_table(self._scene, table)
        need_row(self._scene, table, row)
        return self._times[table].get(row, 0)

    def put(self, table, row, *, many=1):
        """The base with this row so many times more."""
        self._need_change(table, row, many)
        return self._with_times(table, row, self.times(table, row) + many)

    def take(self, table, row, *, many=1):
        """The base with this row so many times less."""
        self._need_change(table, row, many)
        left = self.times(table, row) - many
        if left < 0:
            raise NotThere(row)
        return self._with_times(table, row, left)

    def with_rows(self, table, rows):
        """The base with these rows in a table, changing or fixed, in place of all others."""
        need_table(self._scene, table)
        return _base_of(self._scene, {**self._times, table: _counted(self._scene, table, rows)})

    def on(self, scene):
        """The base with the same rows in another scene that has the same tables with the same columns."""
        need_scene(scene)
        if _shape(scene) != _shape(self._scene):
            raise InvalidOperation("the other scene has the same tables with the same columns")
        for table in scene:
            _need_keyed(scene, table, self._times[table])
        return _base_of(scene, self._times)

    def __add__(self, other):
        if not isinstance(other, Base) or other._scene != self._scene:
            raise InvalidOperation("a base is added to a base of the same scene")
        together = {table: self._added(other, table) for table in self._scene}
        return _base_of(self._scene, together)

    def __len__(self):
        return len([row for times in self._times.values() for row in times])

    def __eq__(self, other):
        return isinstance(other, Base) and self._scene == other._scene and self._times == other._times

    def __str__(self):
        filled = [table for table, times in self._times.items() if len(times) > 0]
        return f"base of {len(self)} rows in {len(filled)} tables"

    def _need_change(self, table, row, many):
        need_table(self._scene, table)
        need_row(self._scene, table, row)
        need_number(many)
        need_changing(self._scene, table)

    def _with_times(self, table, row, many):
        """The base in which this row is there so many times."""
        kept = {one: times for one, times in self._times[table].items() if one != row}
        if many > 0:
            kept[row] = many
        return _base_of(self._scene, {**self._times, table: _ascending(kept)})

    def _added(self, other, table):
        """The times of the rows of a table in both bases; a row of a keyed table is there once."""
        mine, more = self._times[table], other._times[table]
        rows = sorted({**mine, **more})
        if self._scene.key_of(table) is None:
            return {row: mine.get(row, 0) + more.get(row, 0) for row in rows}
        once = {row: 1 for row in rows}
        _need_keyed(self._scene, table, once)
        return once


def need_base(value):
    """InvalidBase if it is no base."""
    if not isinstance(value, Base):
        raise InvalidBase("it is no base")


def base_with(scene, times):
    """The base with these times, above 0, of the rows of some tables, in any order; errors as of Base."""
    told = {table: _ascending(times.get(table, {})) for table in scene}
    for table in scene:
        _need_keyed(scene, table, told[table])
    return _base_of(scene, told)


def _base_of(scene, times):
    """The base with these times of rows, which are right but for their number."""
    _need_few(times)
    base = Base(scene)
    base._times = times
    return base


def _need_few(times):
    """TooMany if there are more different rows than a base has."""
    if sum([len(told) for told in times.values()]) > MAX_ROWS:
        raise TooMany(MAX_ROWS)


def _times_told(scene, rows):
    """The times of the rows of all tables that a dict of tuples tells."""
    if not isinstance(rows, dict) or not all([table in scene for table in rows]):
        raise InvalidBase("the rows are a dict from tables of the scene")
    times = {table: _counted(scene, table, rows.get(table, ())) for table in scene}
    _need_few(times)
    return times


def _counted(scene, table, rows):
    """How often each of these rows of a table stands in a tuple; in a keyed table it is there once."""
    columns = scene.columns_of(table)
    if not isinstance(rows, tuple) or not all([fits(columns, row) for row in rows]):
        raise InvalidBase("rows are a tuple of tuples of integers for the columns of their table")
    keyed = scene.key_of(table) is not None
    counted = {}
    for row in rows:
        counted[row] = 1 if keyed else counted.get(row, 0) + 1
    _need_keyed(scene, table, counted)
    return _ascending(counted)


def _ascending(times):
    """The times, their rows ascending."""
    return {row: times[row] for row in sorted(times)}


def _need_keyed(scene, table, times):
    """InvalidBase if the table is keyed, and has a row more than once, or unequal rows that agree in the key."""
    key = scene.key_of(table)
    if key is None:
        return
    places = [at for at, column in enumerate(scene.columns_of(table)) if column in key]
    if len({tuple([row[at] for at in places]) for row in times}) < len(times):
        raise InvalidBase("rows of a keyed table that agree in the key are equal")
    if not all([many == 1 for many in times.values()]):
        raise InvalidBase("a row of a keyed table is there once")


def _shape(scene):
    """The tables of the scene with their columns."""
    return [(table, scene.columns_of(table)) for table in scene]

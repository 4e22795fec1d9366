"""Scenes: tables with their columns, which tables change, and the keys of the others."""

from fewtouched.base.names import is_columns, is_name
from fewtouched.errors import InvalidOperation, InvalidScene, UnknownName

MAX_TABLES = 6
MAX_COLUMNS = 6
MOST_COLUMNS = 4

CHANGING = "changing"


class Scene:
    """One to six tables, joined by the columns that they have in common. It never changes."""

    def __init__(self, *, changing=None, fixed=None, keyed=None):
        lines = _lines_told(changing, fixed, keyed)
        self._lines = lines
        self._tables = tuple([line[0] for line in lines])
        self._columns = tuple(sorted({column for line in lines for column in line[1]}))
        self._changing = tuple([line[0] for line in lines if line[2] == CHANGING])
        self._fixed = tuple([line[0] for line in lines if line[2] != CHANGING])
        self._columns_by_table = {line[0]: line[1] for line in lines}
        self._key_by_table = {line[0]: line[2] for line in lines if line[2] != CHANGING}

    @classmethod
    def of(cls, lines):
        """The scene with the lines of a tuple, which can stand there in any order."""
        if not isinstance(lines, tuple):
            raise InvalidScene("the lines are a tuple")
        changing, fixed, keyed = _dicts_of(lines)
        return cls(changing=changing, fixed=fixed, keyed=keyed)

    @property
    def tables(self):
        """All tables, ascending."""
        return self._tables

    @property
    def changing(self):
        """The tables that change, ascending."""
        return self._changing

    @property
    def fixed(self):
        """The fixed tables, ascending, be they keyed or not."""
        return self._fixed

    @property
    def columns(self):
        """All columns, ascending."""
        return self._columns

    @property
    def lines(self):
        """A line for each table, ascending by tables."""
        return self._lines

    def columns_of(self, table):
        """The columns of a table."""
        self._need(table)
        return self._columns_by_table[table]

    def key_of(self, table):
        """The key of a table, None if it has none."""
        self._need(table)
        return self._key_by_table.get(table)

    def held(self, *tables):
        """The scene in which these tables are fixed."""
        self._need_all(tables)
        turned = [table for table in tables if table in self._changing]
        return _scene_of(_keyed_anew(self._lines, turned, None))

    def freed(self, *tables):
        """The scene in which these tables change."""
        self._need_all(tables)
        return _scene_of(_keyed_anew(self._lines, tables, CHANGING))

    def with_table(self, table, columns, *, key=CHANGING):
        """The scene with one table more; the key is told as in a line."""
        return _scene_of([*self._lines, (table, columns, key)])

    def without(self, *tables):
        """The scene without these tables."""
        self._need_all(tables)
        return _scene_of([line for line in self._lines if line[0] not in tables])

    def with_key(self, table, key):
        """The scene in which a fixed table has this key, or, with None, has its key no more."""
        columns = self.columns_of(table)
        if key is not None and not _is_key(key, columns):
            raise InvalidScene("a key is some of the columns of its table")
        if table in self._changing:
            raise InvalidOperation("a table that changes has no key")
        has_key = self.key_of(table) is not None
        if has_key != (key is None):
            raise InvalidOperation("the table has a key already, or none that could be taken away")
        return _scene_of(_keyed_anew(self._lines, (table,), key))

    def renamed(self, kind, names):
        """The scene with other names of tables or of columns, all at once."""
        if kind not in ("tables", "columns"):
            raise InvalidOperation("either tables or columns get other names")
        if not isinstance(names, dict) or not all([isinstance(old, str) for old in names]):
            raise InvalidOperation("names are a dict from old names to new ones")
        if kind == "tables":
            new = _new_names(self._tables, names)
            return _scene_of([(new[table], columns, key) for table, columns, key in self._lines])
        new = _new_names(self._columns, names)
        return _scene_of([_with_columns_renamed(line, new) for line in self._lines])

    def __or__(self, other):
        if not isinstance(other, Scene):
            raise InvalidOperation("a scene is joined with a scene")
        mine = {line[0]: line for line in self._lines}
        if not all([mine.get(line[0], line) == line for line in other._lines]):
            raise InvalidOperation("a table of both has the same line in both")
        more = [line for line in other._lines if line[0] not in mine]
        return _scene_of([*self._lines, *more])

    def __contains__(self, value):
        return isinstance(value, str) and value in self._columns_by_table

    def __len__(self):
        return len(self._tables)

    def __iter__(self):
        return iter(self._tables)

    def __eq__(self, other):
        return isinstance(other, Scene) and self._lines == other._lines

    def __str__(self):
        return f"scene of {len(self._tables)} tables, {len(self._columns)} columns"

    def _need(self, table):
        if table not in self:
            raise UnknownName(table)

    def _need_all(self, tables):
        for table in tables:
            self._need(table)


def _scene_of(lines):
    """The scene with these lines."""
    changing, fixed, keyed = _dicts_of(lines)
    return Scene(changing=changing, fixed=fixed, keyed=keyed)


def _dicts_of(lines):
    """The three dicts from which the scene with these lines is made."""
    checked = _checked(lines)
    changing = {table: columns for table, columns, key in checked if key == CHANGING}
    fixed = {table: columns for table, columns, key in checked if key != CHANGING}
    keyed = {table: key for table, columns, key in checked if isinstance(key, tuple)}
    return changing, fixed, keyed


def _lines_told(changing, fixed, keyed):
    """The lines of the scene that three dicts tell."""
    moving, still, chosen = _dict_told(changing), _dict_told(fixed), _dict_told(keyed)
    if not all([table in still for table in chosen]):
        raise InvalidScene("none but a fixed table has a key")
    if not all([isinstance(key, tuple) for key in chosen.values()]):
        raise InvalidScene("a key is a tuple of columns")
    first = [(table, columns, CHANGING) for table, columns in moving.items()]
    more = [(table, columns, chosen.get(table)) for table, columns in still.items()]
    return _checked([*first, *more])


def _dict_told(value):
    """What a dict tells of tables; nothing if it is left out."""
    if value is None:
        return {}
    if not isinstance(value, dict) or not all([is_name(table) for table in value]):
        raise InvalidScene("tables are told by dicts from their names")
    return value


def _checked(lines):
    """The lines, ascending by tables, with ascending columns and keys."""
    by_table = {}
    for line in lines:
        checked = _checked_line(line)
        if checked[0] in by_table:
            raise InvalidScene("a table is told twice")
        by_table[checked[0]] = checked
    if not 1 <= len(by_table) <= MAX_TABLES:
        raise InvalidScene("a scene has one to six tables")
    if len({column for line in by_table.values() for column in line[1]}) > MAX_COLUMNS:
        raise InvalidScene("a scene has at most six columns")
    return tuple([by_table[table] for table in sorted(by_table)])


def _checked_line(line):
    """The line, with its columns and its key ascending."""
    if not isinstance(line, tuple) or len(line) != 3:
        raise InvalidScene("a line is a table, its columns and its key")
    table, columns, key = line
    if not is_name(table):
        raise InvalidScene("a table has a name")
    if not _is_choice(columns) or len(columns) > MOST_COLUMNS:
        raise InvalidScene("a table has at most four columns, each once")
    if key is None or key == CHANGING:
        return table, tuple(sorted(columns)), key
    if not _is_key(key, columns):
        raise InvalidScene("a key is some of the columns of its table, each once")
    return table, tuple(sorted(columns)), tuple(sorted(key))


def _is_choice(value):
    """Whether the value is a tuple of different names, in any order."""
    if not isinstance(value, tuple) or not all([is_name(part) for part in value]):
        return False
    return is_columns(tuple(sorted(value)))


def _is_key(value, columns):
    """Whether the value is a key, in any order, for a table with these columns."""
    return _is_choice(value) and all([column in columns for column in value])


def _keyed_anew(lines, tables, key):
    """The lines, those of the tables with this key in place of theirs."""
    return [(line[0], line[1], key) if line[0] in tables else line for line in lines]


def _new_names(known, names):
    """A dict from each known name to the one that it has behind the renaming."""
    strange = sorted([old for old in names if old not in known])
    if len(strange) > 0:
        raise UnknownName(strange[0])
    new = {name: names.get(name, name) for name in known}
    if not all([is_name(name) for name in new.values()]):
        raise InvalidScene("a new name is no name")
    if len({new[name] for name in known}) < len(known):
        raise InvalidScene("two names become one")
    return new


def _with_columns_renamed(line, new):
    """The line with other names of its columns."""
    table, columns, key = line
    if isinstance(key, tuple):
        key = tuple([new[column] for column in key])
    return table, tuple([new[column] for column in columns]), key

"""Checks of arguments that occur in many functions, each with its error."""

from fewtouched.base.names import fits, is_columns, is_whole
from fewtouched.base.scenes import Scene
from fewtouched.errors import InvalidBase, InvalidNumber, InvalidOperation, InvalidRole, InvalidScene, UnknownName


def need_scene(value):
    """InvalidScene if it is no scene."""
    if not isinstance(value, Scene):
        raise InvalidScene("it is no scene")


def need_table(scene, value):
    """UnknownName if it is no table of the scene."""
    if value not in scene:
        raise UnknownName(value)


def need_changing(scene, table):
    """InvalidOperation if the table is fixed."""
    if table not in scene.changing:
        raise InvalidOperation("the table is fixed")


def need_row(scene, table, value):
    """InvalidBase if it is no row of the table."""
    if not fits(scene.columns_of(table), value):
        raise InvalidBase("a row is a tuple of integers for the columns of its table")


def need_number(value):
    """InvalidNumber if it is not an integer of at least 0."""
    if not is_whole(value) or value < 0:
        raise InvalidNumber(value)


def need_columns(scene, value):
    """InvalidOperation if they are no columns of the scene."""
    if not is_door(scene, value):
        raise InvalidOperation("columns are an ascending tuple of columns of the scene")


def need_integers(columns, value):
    """InvalidOperation if they are not integers for the columns."""
    if not fits(columns, value):
        raise InvalidOperation("these are not integers for the columns")


def is_tables(scene, value):
    """Whether the value is an ascending tuple of one or more tables of the scene."""
    return is_columns(value) and len(value) > 0 and all([table in scene for table in value])


def need_tables(scene, value):
    """InvalidOperation if they are no tables of the scene."""
    if not is_tables(scene, value):
        raise InvalidOperation("tables are an ascending tuple of one or more tables of the scene")


def is_door(scene, value):
    """Whether the value is some columns of the scene, perhaps none."""
    return is_columns(value) and all([column in scene.columns for column in value])


def need_role(scene, value):
    """InvalidRole if it is neither a table that changes nor a door."""
    if not is_door(scene, value) and value not in scene.changing:
        raise InvalidRole("a role is a table that changes, or a door")


def need_door(scene, value):
    """InvalidRole if it is no door of the scene."""
    if not is_door(scene, value):
        raise InvalidRole("a door is an ascending tuple of columns of the scene")


def need_doors(scene, value):
    """InvalidRole if they are not a tuple of doors of the scene."""
    if not isinstance(value, tuple) or not all([is_door(scene, door) for door in value]):
        raise InvalidRole("doors are a tuple of doors of the scene")


def columns_of_role(scene, role):
    """The columns of the table that is the role, or those of the door."""
    if isinstance(role, str):
        return scene.columns_of(role)
    return role


def columns_of_tables(scene, tables):
    """All columns of these tables, ascending."""
    return tuple(sorted({column for table in tables for column in scene.columns_of(table)}))

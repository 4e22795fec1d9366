"""Matches, the total, and answers at doors."""

from fewtouched.base.bases import need_base
from fewtouched.base.checks import (columns_of_tables, need_changing, need_door, need_integers, need_row, need_table,
                                    need_tables)
from fewtouched.base.sums import agreeing, parts_of, parts_with, sums_each, sums_up_to, total

MAX_ANSWERS = 10000


def matches(base, tables):
    """A generator of all matches of these tables, ascending, each as a pair (integers, times)."""
    need_base(base)
    need_tables(base.scene, tables)
    parts = parts_of(base, tables)
    columns = columns_of_tables(base.scene, tables)
    yield from sums_each(parts, columns)


def total_of(base):
    """The sum of the times of all matches of all tables."""
    need_base(base)
    return total(parts_of(base, base.scene.tables))


def answer(base, door, integers):
    """The sum of the times of those matches that have these integers for the columns of the door."""
    need_base(base)
    need_door(base.scene, door)
    need_integers(door, integers)
    told = dict(zip(door, integers))
    return total(agreeing(parts_of(base, base.scene.tables), told))


def answers(base, door):
    """A dict from integers for the columns of the door to all answers above 0."""
    need_base(base)
    need_door(base.scene, door)
    return sums_up_to(parts_of(base, base.scene.tables), door, MAX_ANSWERS)


def difference(base, table, row):
    """By how much the total rises if this row is put in once."""
    need_base(base)
    need_table(base.scene, table)
    need_row(base.scene, table, row)
    need_changing(base.scene, table)
    return total(parts_with(base, base.scene.tables, table, row))

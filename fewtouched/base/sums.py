"""Sums over matches, found column by column.

A part is a pair: columns, in any order, and a dict from integers for them to a number above 0. The rows of a table
with their times are a part. A match of parts has integers for all columns, and the product of their numbers.
"""

from fewtouched.base.names import have_common
from fewtouched.errors import TooMany


def parts_of(base, tables):
    """A part for each of the tables: its rows with their times."""
    return [(base.scene.columns_of(table), base.rows(table)) for table in tables]


def parts_with(base, tables, table, row):
    """As parts_of, but in this table there is just this row, once."""
    others = parts_of(base, [other for other in tables if other != table])
    return [(base.scene.columns_of(table), {row: 1}), *others]


def agreeing(parts, told):
    """What of the parts agrees with the integers that a dict tells of some columns, without these columns."""
    return [_agreeing_part(part, told) for part in parts]


def total(parts):
    """The sum over all matches of the parts."""
    sums = _summed_to(parts, ())[1]
    return sums.get((), 0)


def sums_each(parts, columns):
    """A generator of all matches of the parts, ascending: integers for all columns, and their number."""
    if len(columns) <= 1:
        found = _summed_to(parts, columns)[1]
        for integers in sorted(found):
            yield integers, found[integers]
        return
    behind, rest = _by_first(parts, columns[0]), columns[1:]
    for integer, narrowed in behind.items():
        for more, number in sums_each(narrowed, rest):
            yield (integer, *more), number


def sums_up_to(parts, columns, limit):
    """A dict from integers for the columns, ascending, to the sums above 0; TooMany if they are more than the limit."""
    if total(parts) == 0:
        return {}
    sums = _sums_for(parts, columns, limit)
    return {integers: sums[integers] for integers in sorted(sums)}


def are_more(parts, columns, limit):
    """Whether there are more sums above 0 than the limit."""
    try:
        sums_up_to(parts, columns, limit)
    except TooMany:
        return True
    return False


def hanging_together(columns_of_each):
    """Groups of places: two with a column in common are in one group, and so on; both ascending."""
    groups = []
    for at, columns in enumerate(columns_of_each):
        near = [group for group in groups if have_common(group[1], columns)]
        far = [group for group in groups if not have_common(group[1], columns)]
        places = [at, *[place for group in near for place in group[0]]]
        covered = [*columns, *[column for group in near for column in group[1]]]
        groups = [*far, (sorted(places), covered)]
    return sorted([places for places, _ in groups])


def _agreeing_part(part, told):
    columns, sums = part
    tests = [(at, told[column]) for at, column in enumerate(columns) if column in told]
    left = [at for at, column in enumerate(columns) if column not in told]
    cut = {}
    for integers, number in sums.items():
        if all([integers[at] == integer for at, integer in tests]):
            cut[tuple([integers[at] for at in left])] = number
    return tuple([columns[at] for at in left]), cut


def _by_integer(part, column):
    """A dict from the integers for the column to what of the part agrees with them, without the column."""
    columns, sums = part
    at = columns.index(column)
    rest = columns[:at] + columns[at + 1:]
    told = {}
    for integers, number in sums.items():
        one = told.setdefault(integers[at], (rest, {}))
        one[1][integers[:at] + integers[at + 1:]] = number
    return told


def _by_first(parts, first):
    """A dict from the integers for a column that some match has, ascending, to what of the parts agrees with them."""
    # An integer has a sum here only if there is a match with it, so none leads to nothing further on.
    found = _summed_to(parts, (first,))[1]
    having = [_by_integer(part, first) for part in parts if first in part[0]]
    others = [part for part in parts if first not in part[0]]
    return {at[0]: [*[told[at[0]] for told in having], *others] for at in sorted(found)}


def _sums_for(parts, columns, limit):
    """A dict as that of sums_up_to, in any order; there is at least one match, so each group has at least one sum."""
    told, many = [], 1
    for places in hanging_together([part[0] for part in parts]):
        group = [parts[at] for at in places]
        kept = [column for column in columns if any([column in part[0] for part in group])]
        sums = _sums_of_group(group, kept, limit)
        told.append(sums)
        many = many * len(sums[1])
        if many > limit:
            raise TooMany(limit)
    names, sums = _product(told)
    places = [names.index(column) for column in columns]
    return {tuple([integers[at] for at in places]): number for integers, number in sums.items()}


def _sums_of_group(group, kept, limit):
    """The sums for those of the columns that the parts of one group have, as a part."""
    if len(kept) <= 1:
        return _summed_to(group, kept)
    parts = _thinned(group, kept)
    # What is left falls into the most groups behind the column that the most parts have.
    first = min([(-len([part for part in parts if column in part[0]]), column) for column in kept])[1]
    rest = [column for column in kept if column != first]
    sums, behind = {}, _by_first(parts, first)
    for integer, narrowed in behind.items():
        more = _sums_for(narrowed, rest, limit)
        for integers, number in more.items():
            whole = (integer, *integers)
            sums[whole] = number
        if len(sums) > limit:
            raise TooMany(limit)
    return (first, *rest), sums


def _thinned(parts, kept):
    """The parts, of which columns that are not kept are summed out where no part grows by it."""
    left = parts
    column = _next_column(left, kept)
    while column is not None and _cost(left, column)[0] == 0:
        left = _without(left, column)
        column = _next_column(left, kept)
    return left


def _summed_to(parts, kept):
    """The one part that is left if all columns but those kept are summed out."""
    left = parts
    column = _next_column(left, kept)
    while column is not None:
        left = _without(left, column)
        column = _next_column(left, kept)
    return _product(left)


def _next_column(parts, kept):
    """The column that is best summed out next; None if all are kept."""
    others = sorted({column for part in parts for column in part[0] if column not in kept})
    if len(others) == 0:
        return None
    return min([(_cost(parts, column), column) for column in others])[1]


def _cost(parts, column):
    """By how many columns the largest part with the column grows if it is summed out, and how many there are then.

    A column that a single part has comes first, as this part does not grow.
    """
    having = [part[0] for part in parts if column in part[0]]
    scope = {name: True for columns in having for name in columns}
    return len(scope) - max([len(columns) for columns in having]), len(scope)


def _without(parts, column):
    """The parts in which the column is summed out."""
    scope = [name for part in parts if column in part[0] for name in part[0]]
    # Parts that have no further columns come in, too: they can only make the product smaller.
    inside = [part for part in parts if all([name in scope for name in part[0]])]
    outside = [part for part in parts if not all([name in scope for name in part[0]])]
    return [*outside, _dropped(_product(inside), column)]


def _dropped(part, column):
    """The part without the column, its numbers added."""
    columns, sums = part
    at = columns.index(column)
    dropped = {}
    for integers, number in sums.items():
        rest = integers[:at] + integers[at + 1:]
        dropped[rest] = dropped.get(rest, 0) + number
    return columns[:at] + columns[at + 1:], dropped


def _product(parts):
    """One part of all columns of one or more parts, with the products of their numbers."""
    left = list(parts)
    ranks = [(-len(columns), len(sums), at) for at, (columns, sums) in enumerate(left)]
    product = left.pop(min(ranks)[2])
    while len(left) > 0:
        # Those that bring no further columns come first: they only make the product smaller.
        ranks = [(_new(product, columns), len(sums), at) for at, (columns, sums) in enumerate(left)]
        product = _multiplied(product, left.pop(min(ranks)[2]))
    return product


def _new(part, columns):
    """How many of the columns the part does not have."""
    return len([column for column in columns if column not in part[0]])


def _multiplied(first, second):
    """One part of the columns of both."""
    columns, sums = first
    common = [column for column in second[0] if column in columns]
    new, agreed = _by_columns(second, common)
    places = [columns.index(column) for column in common]
    product = {}
    for integers, number in sums.items():
        key = tuple([integers[at] for at in places])
        for rest, times in agreed.get(key, ()):
            product[integers + rest] = number * times
    return columns + new, product


def _by_columns(part, common):
    """The other columns, and a dict from integers for the common ones to pairs: those for the others, the number."""
    columns, sums = part
    inner = [columns.index(column) for column in common]
    outer = [at for at, column in enumerate(columns) if column not in common]
    agreed = {}
    for integers, number in sums.items():
        key = tuple([integers[at] for at in inner])
        rest = tuple([integers[at] for at in outer])
        agreed.setdefault(key, []).append((rest, number))
    return tuple([columns[at] for at in outer]), agreed

"""Names, columns, and integers for columns."""

from fewtouched.errors import InvalidOperation

MOST_LETTERS = 8


def is_name(value):
    """Whether the value is a name: one to eight letters from a to z."""
    if not isinstance(value, str) or not 1 <= len(value) <= MOST_LETTERS:
        return False
    return all(["a" <= letter <= "z" for letter in value])


def is_columns(value):
    """Whether the value is columns: an ascending tuple of names."""
    if not isinstance(value, tuple) or not all([is_name(part) for part in value]):
        return False
    return all([one < following for one, following in zip(value, value[1:])])


def is_whole(value):
    """Whether the value is an integer, which True and False are not."""
    return isinstance(value, int) and not isinstance(value, bool)


def fits(columns, value):
    """Whether the value is integers for the columns."""
    if not isinstance(value, tuple) or len(value) != len(columns):
        return False
    return all([is_whole(part) for part in value])


def have_common(columns, others):
    """Whether there is a column in both."""
    return any([column in others for column in columns])


def project(columns, integers, some):
    """The integers for some of the columns, in the order of these."""
    told = _by_column(columns, integers)
    if not is_columns(some) or not all([column in told for column in some]):
        raise InvalidOperation("these are not some of the columns")
    return tuple([told[column] for column in some])


def joined(columns, integers, others, more):
    """All of the columns and the integers for them; None where two integers differ."""
    first = _by_column(columns, integers)
    second = _by_column(others, more)
    if not all([first.get(column, second[column]) == second[column] for column in others]):
        return None
    both = {**first, **second}
    together = tuple(sorted(both))
    return together, tuple([both[column] for column in together])


def _by_column(columns, integers):
    """A dict from the columns to the integers for them."""
    if not is_columns(columns):
        raise InvalidOperation("columns are an ascending tuple of names")
    if not fits(columns, integers):
        raise InvalidOperation("these are not integers for the columns")
    return dict(zip(columns, integers))

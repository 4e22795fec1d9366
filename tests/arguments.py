"""Wrong arguments: each alone, two at once, and all from one on [0.4]."""

from inspect import isgeneratorfunction

# Which attribute of an error keeps the value that is wrong.
KEPT = {"InvalidNumber": "value", "UnknownName": "name"}
FEW = 4


class Argument:
    """A parameter with a right value, wrong values, and the error that these raise; by keyword if it has a name."""

    def __init__(self, right, wrong, error, name=None):
        self.right, self.wrong, self.error, self.name = right, list(wrong), error, name


def called(function, arguments, values):
    plain = [value for part, value in zip(arguments, values) if part.name is None]
    more = {part.name: value for part, value in zip(arguments, values) if part.name is not None}
    if isgeneratorfunction(function):
        return list(function(*plain, **more))
    return function(*plain, **more)


def check_errors(case, function, *arguments):
    """That a wrong argument raises its error, whatever is wrong behind it."""
    right = [part.right for part in arguments]
    called(function, arguments, right)
    for at, part in enumerate(arguments):
        for value in part.wrong:
            with case.subTest(function.__name__, at=at, value=value):
                check_one(case, function, arguments, right[:at] + [value] + right[at + 1:], part)
        for value in part.wrong[::len(part.wrong) // FEW + 1]:
            for more in range(at + 1, len(arguments)):
                for other in arguments[more].wrong[::len(arguments[more].wrong) // FEW + 1]:
                    values = right[:at] + [value] + right[at + 1:more] + [other] + right[more + 1:]
                    with case.subTest(function.__name__, at=at, value=value, more=more, other=other):
                        check_one(case, function, arguments, values, part)
            values = right[:at] + [value] + [(behind.wrong or [behind.right])[0] for behind in arguments[at + 1:]]
            with case.subTest(function.__name__, at=at, value=value, more="all"):
                check_one(case, function, arguments, values, part)


def check_one(case, function, arguments, values, part):
    at = arguments.index(part)
    caught = case.raises(part.error, called, function, arguments, values)
    kept = KEPT.get(part.error.__name__)
    if kept is not None:
        case.assertIs(getattr(caught, kept), values[at])
    if isgeneratorfunction(function):
        plain = [value for one, value in zip(arguments, values) if one.name is None]
        more = {one.name: value for one, value in zip(arguments, values) if one.name is not None}
        case.lazily(part.error, function, *plain, **more)

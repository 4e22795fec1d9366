"""The forms of the commands of a shell, and what is read of a command by its form alone."""

from fewtouched.base.names import is_name
from fewtouched.errors import InvalidCommand
from fewtouched.text.integers import integer_of, is_integer_text

# What stands behind the word of a command in its first line. The last part of a form can be several words.
FORMS = {
    "scene": ("name",), "base": ("name",), "put": ("name", "rest"), "take": ("name", "rest"),
    "hold": ("name", "name"), "free": ("name", "name"), "key": ("name", "name", "columns"), "unkey": ("name", "name"),
    "open": ("name", "columns"), "shut": ("name", "columns"), "drop": ("name",), "undo": ("many",), "redo": ("many",),
    "names": (), "show": ("name",), "rows": ("name",), "book": ("name",), "doors": ("name",), "total": ("name",),
    "ask": ("name", "question"), "work": ("name",), "judge": (), "phases": (), "twins": ("rest",),
}
# Commands with further lines; those of the second ones can be none.
WITH_LINES = ("scene", "judge", "phases", "twins")
WITH_ANY_LINES = ("base",)
MOST_DIGITS = 40


def command_told(text):
    """A triple of what a command tells: its word, the values in its first line, and its further lines as a text."""
    if not isinstance(text, str):
        raise InvalidCommand("a command is a text")
    head, newline, more = text.partition("\n")
    word, *words = head.split(" ")
    if word not in FORMS or not _has_lines(word, newline != ""):
        raise InvalidCommand("there is no such command, or it has other lines")
    values = []
    for part in FORMS[word]:
        value, words = _value_told(part, words)
        values.append(value)
    if len(words) > 0:
        raise InvalidCommand("there are more words than the command has")
    return word, tuple(values), more


def begins_with_name(word):
    """Whether the first line of a command with this word has a name at the desk, or a new one."""
    return len(FORMS[word]) > 0 and FORMS[word][0] == "name"


def _has_lines(word, further):
    """Whether a command with this word can have further lines, or none."""
    return word in WITH_ANY_LINES or (word in WITH_LINES) == further


def _value_told(part, words):
    """The value of one part of a form, and the words that are left behind it."""
    if part == "columns":
        return _names_told(words), []
    if part == "question":
        return _question_told(words), []
    if part == "rest":
        rest = " ".join(words)
        if rest == "":
            raise InvalidCommand("something has to stand there")
        return rest, []
    if len(words) == 0:
        raise InvalidCommand("there are fewer words than the command has")
    first = words[0]
    if part == "many":
        number = _integer_told(first)
        if number < 0:
            raise InvalidCommand("the number is at least 0")
        return number, words[1:]
    return _names_told([first])[0], words[1:]


def _names_told(words):
    if not all([is_name(word) for word in words]):
        raise InvalidCommand("names have one to eight letters from a to z")
    return tuple(words)


def _question_told(words):
    """The columns and the integers of a question."""
    if "=" not in words:
        raise InvalidCommand("a sign stands between columns and integers")
    at = words.index("=")
    return _names_told(words[:at]), tuple([_integer_told(word) for word in words[at + 1:]])


def _integer_told(word):
    if not is_integer_text(word) or len(word.lstrip("-")) > MOST_DIGITS:
        raise InvalidCommand("an integer has at most forty digits, and is written in one way")
    return integer_of(word)

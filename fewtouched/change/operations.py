"""Steps that change a scene and its doors, what they do to strains, and those that mend a book."""

from fewtouched.base.bases import base_with, need_base
from fewtouched.base.checks import need_doors, need_scene
from fewtouched.base.names import have_common
from fewtouched.books.books import distinct, first_strained
from fewtouched.errors import InvalidOperation, InvalidScene
from fewtouched.strain.bridges import strains, tables_straining
from fewtouched.views.views import choices

MENDING = ("hold", "key", "shut")
HEALING = ("hold", "shut")


def possible_steps(scene, doors):
    """A generator of all possible steps, ascending."""
    need_scene(scene)
    need_doors(scene, doors)
    for word in ("drop", "free", "hold", "key", "shut", "unkey"):
        steps = _steps_with(scene, doors, word)
        yield from steps


def behind(scene, doors, step):
    """The scene and the ascending doors behind a step."""
    _need_step(scene, doors, step)
    return _behind(scene, doors, step)


def gone(scene, doors, step):
    """The strains that a step ends: pairs of two tables, then pairs of a door and a table."""
    _need_step(scene, doors, step)
    return _lost(_strains_with(scene, doors), _strains_behind(scene, doors, step))


def come(scene, doors, step):
    """The strains that a step begins: pairs of two tables, then pairs of a door and a table."""
    _need_step(scene, doors, step)
    return _lost(_strains_behind(scene, doors, step), _strains_with(scene, doors))


def mends(scene, doors):
    """A generator of all steps that hold, key or shut, ascending, behind which the book is quiet."""
    need_scene(scene)
    need_doors(scene, doors)
    for word in MENDING:
        for step in _steps_with(scene, doors, word):
            new_scene, new_doors = _behind(scene, doors, step)
            if first_strained(new_scene, new_doors) is None:
                yield step


def heal(scene, doors):
    """As few steps as possible that hold and shut, ascending, behind all of which the book is quiet."""
    need_scene(scene)
    need_doors(scene, doors)
    return _first_heal(scene, doors)


def is_heal(scene, doors, value):
    """Whether the value is as few such steps as possible."""
    need_scene(scene)
    need_doors(scene, doors)
    known = [step for word in HEALING for step in _steps_with(scene, doors, word)]
    if not isinstance(value, tuple) or not all([step in known for step in value]):
        return False
    if not all([one < following for one, following in zip(value, value[1:])]):
        return False
    left = [pair for pair in _strains_with(scene, doors) if not _ends(value, pair)]
    return len(left) == 0 and len(value) == len(_first_heal(scene, doors))


def beside(first, second):
    """The base with the tables and rows of two bases."""
    need_base(first)
    need_base(second)
    one, other = first.scene, second.scene
    if have_common(one.tables, other.tables) or have_common(one.columns, other.columns):
        raise InvalidOperation("a table or a column is in both scenes")
    try:
        scene = one | other
    except InvalidScene:
        raise InvalidOperation("there is no scene with all tables")
    rows = {table: first.rows(table) for table in one}
    more = {table: second.rows(table) for table in other}
    return base_with(scene, {**rows, **more})


def _need_step(scene, doors, step):
    need_scene(scene)
    need_doors(scene, doors)
    if step not in list(possible_steps(scene, doors)):
        raise InvalidOperation("it is not a step that is possible")


def _steps_with(scene, doors, word):
    """All possible steps with this word, ascending."""
    keyed = [table for table in scene.fixed if scene.key_of(table) is not None]
    if word == "key":
        plain = [(table, scene.columns_of(table)) for table in scene.fixed if table not in keyed]
        return [(word, table, tuple(key)) for table, columns in plain for key in choices(columns)]
    told = {"free": scene.fixed, "hold": scene.changing, "shut": distinct(doors), "unkey": keyed,
            "drop": scene.tables if len(scene) > 1 else ()}
    return [(word, told_of) for told_of in told[word]]


def _behind(scene, doors, step):
    """As behind, for a step that is known to be possible."""
    word, what = step[0], step[1]
    left = distinct(doors)
    if word == "hold":
        return scene.held(what), left
    if word == "free":
        return scene.freed(what), left
    if word == "key":
        return scene.with_key(what, step[2]), left
    if word == "unkey":
        return scene.with_key(what, None), left
    if word == "shut":
        return scene, tuple([door for door in left if door != what])
    less = scene.without(what)
    return less, tuple([door for door in left if all([column in less.columns for column in door])])


def _strains_with(scene, doors):
    """The pairs of strained tables, then those of a door and a table with which it is strained."""
    of_doors = [(door, table) for door in distinct(doors) for table in tables_straining(scene, door)]
    return (*strains(scene), *of_doors)


def _strains_behind(scene, doors, step):
    new_scene, new_doors = _behind(scene, doors, step)
    return _strains_with(new_scene, new_doors)


def _lost(pairs, others):
    """Those of the pairs that are not among the others."""
    return tuple([pair for pair in pairs if pair not in others])


def _ends(steps, pair):
    """Whether one of these steps holds a table of the pair, or shuts its door."""
    words = [("hold", pair[1]), ("shut" if isinstance(pair[0], tuple) else "hold", pair[0])]
    return any([step in words for step in steps])


def _first_heal(scene, doors):
    """Of the heals that hold the fewest tables, the one that holds the least ones."""
    pairs = _strains_with(scene, doors)
    found = []
    for held in choices(scene.changing):
        left = [pair for pair in pairs if pair[0] not in held and pair[1] not in held]
        # Two tables that are strained stay so whatever is shut.
        if all([isinstance(pair[0], tuple) for pair in left]):
            shut = sorted({pair[0] for pair in left})
            steps = tuple([*[("hold", table) for table in held], *[("shut", door) for door in shut]])
            found.append((len(steps), steps))
    return min(found)[1]

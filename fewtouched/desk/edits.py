"""Edits: each makes new places from those at a desk, which never change themselves."""

from fewtouched.base.bases import need_base
from fewtouched.base.checks import need_door
from fewtouched.base.names import is_name
from fewtouched.books.keeping import kept_of, with_doors, with_put, with_taken
from fewtouched.errors import InvalidEdit, InvalidOperation, UnknownName

# How many values an edit with each word has.
LENGTHS = {"scene": 3, "drop": 2, "put": 5, "take": 5, "rows": 4, "hold": 3, "free": 3, "key": 4, "open": 3, "shut": 3}


class Place:
    """What is kept of a base at a desk, and how many entries its puts and takes looked at and altered."""

    def __init__(self, kept, looked=0, altered=0):
        self.kept = kept
        self.looked = looked
        self.altered = altered


def behind_edit(places, edit):
    """A dict from names to places, as it is behind an edit of places."""
    if not _is_edit(edit):
        raise InvalidEdit("an edit is a tuple of a known word and as many values as it has")
    word, name, values = edit[0], edit[1], edit[2:]
    if word == "scene":
        return _with_scene(places, name, values[0])
    need_place(places, name)
    if word == "drop":
        return {other: places[other] for other in places if other != name}
    place = places[name]
    action = ACTIONS[word]
    changed = action(place, *values)
    return {**places, name: changed}


def need_place(places, name):
    """UnknownName if there is no place with this name."""
    if not isinstance(name, str) or name not in places:
        raise UnknownName(name)


def need_open(kept, door):
    """InvalidOperation if the door is not open."""
    if door not in kept.open_doors:
        raise InvalidOperation("the door is not open")


def _is_edit(value):
    """Whether the value is a tuple of so many values with such a string in front."""
    if not isinstance(value, tuple) or len(value) == 0 or not isinstance(value[0], str):
        return False
    return value[0] in LENGTHS and len(value) == LENGTHS[value[0]]


def _with_scene(places, name, base):
    if not is_name(name) or name in places:
        raise InvalidOperation("the new name is no name, or in use")
    need_base(base)
    kept = kept_of(base, ())
    return {**places, name: Place(kept)}


def _put(place, table, row, many):
    return _touched(place, with_put(place.kept, table, row, many))


def _take(place, table, row, many):
    return _touched(place, with_taken(place.kept, table, row, many))


def _touched(place, kept):
    """The place behind a put or take that has led to this."""
    looked, altered = kept.touched
    return Place(kept, place.looked + looked, place.altered + altered)


def _rows(place, table, rows):
    return _on_base(place, place.kept.base_now.with_rows(table, rows))


def _hold(place, table):
    base = place.kept.base_now
    return _on_base(place, base.on(base.scene.held(table)))


def _free(place, table):
    base = place.kept.base_now
    return _on_base(place, base.on(base.scene.freed(table)))


def _key(place, table, key):
    base = place.kept.base_now
    return _on_base(place, base.on(base.scene.with_key(table, key)))


def _on_base(place, base):
    """The place with another base, but the same doors."""
    return Place(kept_of(base, place.kept.open_doors), place.looked, place.altered)


def _admit(place, door):
    need_door(place.kept.base_now.scene, door)
    return _on_doors(place, (*place.kept.open_doors, door))


def _shut(place, door):
    need_door(place.kept.base_now.scene, door)
    need_open(place.kept, door)
    return _on_doors(place, tuple([other for other in place.kept.open_doors if other != door]))


def _on_doors(place, doors):
    """The place with other doors, but the same base."""
    return Place(with_doors(place.kept, doors), place.looked, place.altered)


# What is done at a place by each word that has a name at the desk, and more behind it.
ACTIONS = {"put": _put, "take": _take, "rows": _rows, "hold": _hold, "free": _free, "key": _key, "open": _admit,
           "shut": _shut}

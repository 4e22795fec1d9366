"""A desk: bases under names, with open doors, whose books are quiet at every moment."""

from fewtouched.base.checks import need_door, need_integers, need_number
from fewtouched.books.keeper import Keeper
from fewtouched.books.keeping import asked, total_kept
from fewtouched.desk.edits import behind_edit, need_open, need_place
from fewtouched.errors import InvalidOperation, NothingToUndo


class State:
    """All that a desk has. It never changes: a desk that changes gets another one.

    places: a dict from names to places. done and undone: pairs of the edits of a group and the places before it, or
    behind it. questions: what is watched. heard: what was told of each of them last.
    """

    def __init__(self, places, done=(), undone=(), questions=(), heard=()):
        self.places = places
        self.names = tuple(sorted(places))
        self.done = done
        self.undone = undone
        self.questions = questions
        self.heard = heard


class Saved:
    """A state that comes back at the end of a block, and what was saved for the block around it."""

    def __init__(self, state, outer):
        self.state = state
        self.outer = outer


class Trial:
    """A block at the end of which a desk is as it was at its beginning."""

    def __init__(self, desk):
        self._desk = desk
        self._saved = None

    def __enter__(self):
        self._saved = Saved(self._desk._state, self._saved)
        return self._desk

    def __exit__(self, kind, value, trace):
        desk = self._desk
        desk._state = self._saved.state
        self._saved = self._saved.outer


class Desk:
    """Bases under different names, and groups of edits that can be taken back and done again."""

    def __init__(self):
        self._state = State({})

    @property
    def log(self):
        """The groups in effect, each a tuple of edits."""
        return tuple([edits for edits, _ in self._state.done])

    @property
    def watches(self):
        """Triples (name, door, integers), by the numbers of the watches."""
        return self._state.questions

    def apply(self, *edits):
        """Do edits as one group, all or none; how many groups are in effect then."""
        state, places = self._state, self._state.places
        for edit in edits:
            places = behind_edit(places, edit)
        if len(edits) > 0:
            done = (*state.done, (edits, state.places))
            self._state = State(places, done, (), state.questions, state.heard)
        return len(self)

    def apply_all(self, edits):
        """As apply, with a tuple of edits."""
        if not isinstance(edits, tuple):
            raise InvalidOperation("edits are a tuple")
        return self.apply(*edits)

    def undo(self, *, many=1):
        """Take back the last groups; how many groups are in effect then."""
        state = self._state
        _need_groups(state.done, many)
        for _ in range(many):
            edits, before = state.done[-1]
            undone = (*state.undone, (edits, state.places))
            state = State(before, state.done[:-1], undone, state.questions, state.heard)
        self._state = state
        return len(self)

    def redo(self, *, many=1):
        """Do again the groups that were taken back last; how many groups are in effect then."""
        state = self._state
        _need_groups(state.undone, many)
        for _ in range(many):
            edits, after = state.undone[-1]
            done = (*state.done, (edits, state.places))
            state = State(after, done, state.undone[:-1], state.questions, state.heard)
        self._state = state
        return len(self)

    def base_of(self, name):
        """The base with this name."""
        return self._place(name).kept.base_now

    def doors_of(self, name):
        """Its open doors, ascending."""
        return self._place(name).kept.open_doors

    def total_at(self, name):
        """Its total."""
        return total_kept(self._place(name).kept)

    def work(self, name):
        """How many entries its puts and takes in effect have looked at, and altered."""
        place = self._place(name)
        return place.looked, place.altered

    def keeper(self, name):
        """A new keeper of it, with its open doors."""
        kept = self._place(name).kept
        return Keeper.of(kept.base_now, kept.open_doors)

    def ask(self, name, door, integers):
        """The answer at one of its open doors."""
        kept = self._place(name).kept
        need_door(kept.base_now.scene, door)
        need_integers(door, integers)
        need_open(kept, door)
        return asked(kept, door, integers)[0]

    def watch(self, name, door, integers):
        """Begin a watch of an answer; its number."""
        now = self.ask(name, door, integers)
        state = self._state
        questions, heard = (*state.questions, (name, door, integers)), (*state.heard, now)
        self._state = State(state.places, state.done, state.undone, questions, heard)
        return len(questions) - 1

    def news(self):
        """Triples (number, before, now) of the watches whose answers are not those that were told last."""
        state = self._state
        now = tuple([_answer_now(state.places, question) for question in state.questions])
        self._state = State(state.places, state.done, state.undone, state.questions, now)
        pairs = list(enumerate(zip(state.heard, now)))
        return tuple([(at, before, after) for at, (before, after) in pairs if before != after])

    def trial(self):
        """A block that gives the desk, and at the end of which it is as it was at its beginning."""
        return Trial(self)

    def during(self, call):
        """What a call with the desk returns; the desk is as before then."""
        with self.trial() as same:
            return call(same)

    def twin(self):
        """An independent desk with the same bases, doors and work."""
        twin = Desk()
        twin._state = State(self._state.places)
        return twin

    def __iter__(self):
        return iter(self._state.names)

    def __contains__(self, value):
        return isinstance(value, str) and value in self._state.places

    def __len__(self):
        return len(self._state.done)

    def __eq__(self, other):
        return isinstance(other, Desk) and _are_equal(self._state.places, other._state.places)

    def __str__(self):
        return f"desk of {len(self._state.places)} scenes"

    def _place(self, name):
        need_place(self._state.places, name)
        return self._state.places[name]


def _need_groups(groups, many):
    """InvalidNumber if it is no number, NothingToUndo if there are fewer groups."""
    need_number(many)
    if many > len(groups):
        raise NothingToUndo(many)


def _answer_now(places, question):
    """What a watch tells now; None where its name or its door is gone."""
    name, door, integers = question
    if name not in places or door not in places[name].kept.open_doors:
        return None
    return asked(places[name].kept, door, integers)[0]


def _are_equal(places, others):
    """Whether there are equal bases and open doors under equal names."""
    return _shown(places) == _shown(others)


def _shown(places):
    """A dict from names to what of a place can be seen."""
    return {name: (place.kept.base_now, place.kept.open_doors) for name, place in places.items()}

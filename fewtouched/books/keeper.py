"""Keepers: they follow any changes of a base by the few entries of a quiet book."""

from fewtouched.base.bases import need_base
from fewtouched.base.checks import need_doors, need_integers
from fewtouched.books.keeping import asked, kept_of, total_kept, with_change, with_doors, with_put, with_taken
from fewtouched.errors import InvalidOperation, InvalidRole, InvalidView


class Keeper:
    """A base, its open doors, and all entries above 0 of the views of their book."""

    def __init__(self, base, *doors):
        need_base(base)
        need_doors(base.scene, doors)
        self._kept = kept_of(base, doors)
        self._last = (0, 0)

    @classmethod
    def of(cls, base, doors):
        """The keeper with the doors of a tuple."""
        need_base(base)
        need_doors(base.scene, doors)
        return cls(base, *doors)

    @property
    def base(self):
        """The base as it is now."""
        return self._kept.base_now

    @property
    def doors(self):
        """The open doors, ascending."""
        return self._kept.open_doors

    @property
    def views(self):
        """The views of the book, ascending."""
        return tuple(self._kept.told)

    @property
    def total(self):
        """The total of the base."""
        return total_kept(self._kept)

    @property
    def last(self):
        """How many entries the last change or question looked at, and how many it altered."""
        return self._last

    def put(self, table, row, *, many=1):
        """Put the row in so many times, and return the total."""
        return self._go_on(with_put(self._kept, table, row, many))

    def take(self, table, row, *, many=1):
        """Take the row out so many times, and return the total."""
        return self._go_on(with_taken(self._kept, table, row, many))

    def follow(self, changes):
        """A generator of the totals behind the changes of a tuple, each made when its total is asked for."""
        if not isinstance(changes, tuple) or not all([is_triple(change) for change in changes]):
            raise InvalidOperation("changes are a tuple of triples (table, row, many)")
        for change in changes:
            self._go_on(with_change(self._kept, change))
            yield self.total

    def ask(self, door, integers):
        """The answer at an open door."""
        if door not in self._kept.open_doors:
            raise InvalidRole("it is not an open door")
        need_integers(door, integers)
        number, looked = asked(self._kept, door, integers)
        self._last = (looked, 0)
        return number

    def __call__(self, door, integers):
        return self.ask(door, integers)

    def entries(self, view):
        """A dict of the entries above 0 of a view of the book."""
        if view not in self.views:
            raise InvalidView("it is no view of the book")
        told = self._kept.told[view]
        return {integers: told[integers] for integers in sorted(told)}

    def admit(self, *doors):
        """Open doors, and return how many are open then."""
        need_doors(self.base.scene, doors)
        self._kept = with_doors(self._kept, (*self._kept.open_doors, *doors))
        return len(self.doors)

    def shut(self, *doors):
        """Shut open doors, and return how many are open then."""
        need_doors(self.base.scene, doors)
        if not all([door in self.doors for door in doors]):
            raise InvalidOperation("a door that is not open can't be shut")
        self._kept = with_doors(self._kept, tuple([door for door in self.doors if door not in doors]))
        return len(self.doors)

    def twin(self):
        """An independent keeper in the same state."""
        twin = Keeper.of(self.base, self.doors)
        twin._last = self._last
        return twin

    def __len__(self):
        return len([integers for told in self._kept.told.values() for integers in told])

    def __eq__(self, other):
        return isinstance(other, Keeper) and self.base == other.base and self.doors == other.doors

    def __str__(self):
        return f"keeper of {len(self._kept.told)} views, {len(self)} entries"

    def _go_on(self, kept):
        self._kept = kept
        self._last = kept.touched
        return self.total


def is_triple(value):
    """Whether the value is a tuple of three."""
    return isinstance(value, tuple) and len(value) == 3

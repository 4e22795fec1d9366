"""Shifts: they follow a base through phases, in each of which some tables change and all others are held."""

from fewtouched.base.bases import MAX_ROWS, need_base
from fewtouched.base.checks import need_changing, need_number, need_row, need_table
from fewtouched.books.keeping import count_kept, kept_of, total_kept, with_change
from fewtouched.errors import InvalidOperation, NotThere, TooMany
from fewtouched.strain.served import is_phases


class Stand:
    """Where a shift stands: its phase, what is kept in it, what waits, and the last numbers of what was touched.

    It never changes, so that many phases can be gone on at once, or none if there is an error in one of them.
    """

    def __init__(self, at, kept, begun, queue, touched):
        self.at = at
        self.kept = kept
        self.begun = begun
        self.queue = queue
        self.touched = touched


class Shift:
    """A base that is followed through phases, one after another, behind the last one the first one again."""

    def __init__(self, base, phases):
        need_base(base)
        if not is_phases(base.scene, phases) or len(phases) == 0:
            raise InvalidOperation("these are no phases of the scene of the base, or none at all")
        self._scene = base.scene
        self._phases = phases
        self._stand = _begin(base, phases, 0, (), (0, 0))

    @property
    def base(self):
        """The base without what waits."""
        return self._stand.kept.base_now.on(self._scene)

    @property
    def phases(self):
        """The phases, in the order in which they come."""
        return self._phases

    @property
    def phase(self):
        """The index of the present phase."""
        return self._stand.at

    @property
    def total(self):
        """The total of the base without what waits."""
        return total_kept(self._stand.kept)

    @property
    def waiting(self):
        """The changes that wait, triples (table, row, many), in the order in which they came."""
        return self._stand.queue

    @property
    def built(self):
        """How many entries were stored when the phase began, ahead of the changes that waited."""
        return self._stand.begun

    @property
    def last(self):
        """How many entries the last change that was made looked at, and how many it altered."""
        return self._stand.touched

    def put(self, table, row, *, many=1):
        """Put the row in so many times, now or when its phase begins; whether it was now."""
        self._need_all(table, row, many)
        if many > 0 and self._count_with(table, row) > MAX_ROWS:
            raise TooMany(MAX_ROWS)
        return self._change(table, row, many)

    def take(self, table, row, *, many=1):
        """Take the row out so many times, now or when its phase begins; whether it was now."""
        self._need_all(table, row, many)
        waiting = [times for other, told, times in self._stand.queue if other == table and told == row]
        if self._stand.kept.base_now.times(table, row) + sum(waiting) < many:
            raise NotThere(row)
        return self._change(table, row, -many)

    def turn(self, *, many=1):
        """Go on to the next phase, so many times; how many changes that waited were made in all."""
        need_number(many)
        rounds = 2 * len(self._phases)
        # Behind two full rounds nothing waits, and each further round ends as it began.
        left = many if many <= rounds else rounds + (many - rounds) % len(self._phases)
        stand = self._stand
        for _ in range(left):
            stand = self._next(stand)
        made = len(self._stand.queue) - len(stand.queue)
        self._stand = stand
        return made

    def settle(self):
        """Go on until nothing waits; how many phases it went on."""
        stand, gone = self._stand, 0
        while len(stand.queue) > 0:
            stand = self._next(stand)
            gone += 1
        self._stand = stand
        return gone

    def whole(self):
        """The base behind all that waits, too."""
        rises = {}
        for table, row, many in self._stand.queue:
            rises[table, row] = rises.get((table, row), 0) + many
        whole = self.base
        for table, row in rises:
            whole = _risen(whole, table, row, rises[table, row])
        return whole

    def __len__(self):
        return len(self._stand.queue)

    def __str__(self):
        return f"shift of {len(self._phases)} phases, {len(self)} waiting"

    def _need_all(self, table, row, many):
        need_table(self._scene, table)
        need_row(self._scene, table, row)
        need_number(many)
        need_changing(self._scene, table)

    def _count_with(self, table, row):
        """How many different rows the base, what waits to be put in, and this row are."""
        base, put_in = self._stand.kept.base_now, {(table, row): True}
        for other, told, many in self._stand.queue:
            if many > 0:
                put_in[other, told] = True
        return base.size + len([at for at in put_in if base.times(at[0], at[1]) == 0])

    def _change(self, table, row, many):
        """Make a change, or let it wait; whether it was made."""
        stand, change = self._stand, (table, row, many)
        if table in self._phases[stand.at]:
            kept = with_change(stand.kept, change)
            self._stand = Stand(stand.at, kept, stand.begun, stand.queue, kept.touched)
            return True
        if many != 0:
            self._stand = Stand(stand.at, stand.kept, stand.begun, (*stand.queue, change), stand.touched)
        return False

    def _next(self, stand):
        """Where the shift stands when the next phase has begun."""
        base = stand.kept.base_now.on(self._scene)
        return _begin(base, self._phases, (stand.at + 1) % len(self._phases), stand.queue, stand.touched)


def _begin(base, phases, at, queue, touched):
    """Where a shift stands when a phase has begun; TooMany if there are too many entries."""
    others = [table for table in base.scene.changing if table not in phases[at]]
    kept = kept_of(base.on(base.scene.held(*others)), ())
    begun, last = count_kept(kept), touched
    for change in queue:
        if change[0] in phases[at]:
            kept = with_change(kept, change)
            last = kept.touched
    return Stand(at, kept, begun, tuple([change for change in queue if change[0] not in phases[at]]), last)


def _risen(base, table, row, many):
    """The base in which the row is there so many times more, or less if the number is below 0."""
    if many < 0:
        return base.take(table, row, many=-many)
    return base.put(table, row, many=many)

"""What a keeper keeps, as values that never change: each change makes another one."""

from fewtouched.base.names import is_whole
from fewtouched.books.books import book_of, distinct, first_strained, followed
from fewtouched.errors import Strained
from fewtouched.views.closures import found_in
from fewtouched.views.views import entries


class Kept:
    """A base, its open doors, the entries above 0 of the views of their book, and what leads from role to views.

    It never changes, and nothing changes the dicts in it; so many of these can have the same dicts.
    """

    def __init__(self, base_now, open_doors, told, leads, touched=(0, 0)):
        self.base_now = base_now
        self.open_doors = open_doors
        self.told = told
        self.leads = leads
        self.touched = touched


def kept_of(base, doors):
    """What is kept of a base and doors that are known to be right; Strained or TooMany if it can't be."""
    return _kept_with(base, doors, {})


def with_doors(kept, doors):
    """The same base with other open doors."""
    return _kept_with(kept.base_now, doors, kept.told)


def with_put(kept, table, row, many):
    """What is kept behind a put, with errors as of a base."""
    base = kept.base_now.put(table, row, many=many)
    return _behind(kept, base, table, row, many)


def with_taken(kept, table, row, many):
    """What is kept behind a take, with errors as of a base."""
    base = kept.base_now.take(table, row, many=many)
    return _behind(kept, base, table, row, -many)


def with_change(kept, change):
    """What is kept behind a triple (table, row, many): a put, or a take if the number is below 0."""
    table, row, many = change
    if is_whole(many) and many < 0:
        return with_taken(kept, table, row, -many)
    return with_put(kept, table, row, many)


def asked(kept, door, integers):
    """A pair for an open door: the answer, and how many entries were looked at."""
    view, views = kept.leads[door][0]
    found = found_in(kept.base_now, door, integers, view[0])
    if found is None:
        return 0, 0
    return _product(kept, views, found), len(views)


def total_kept(kept):
    """The total of the base."""
    return kept.told[kept.base_now.scene.tables, ()].get((), 0)


def count_kept(kept):
    """How many entries are stored."""
    return sum([len(told) for told in kept.told.values()])


def _kept_with(base, doors, known):
    """What is kept of a base; the entries of some views can be known."""
    strained = first_strained(base.scene, doors)
    if strained is not None:
        raise Strained(strained[2])
    told = {view: known[view] if view in known else entries(base, view) for view in book_of(base.scene, doors)}
    return Kept(base, distinct(doors), told, _leads_by_role(base.scene, doors))


def _leads_by_role(scene, doors):
    """A dict from roles to pairs: a view, and the views of the pieces of its tables for the role."""
    leads = {}
    for view, role, views in followed(scene, doors):
        leads.setdefault(role, []).append((view, views))
    return leads


def _behind(kept, base, table, row, many):
    """What is kept behind a change that leads to this base, in which the row is there so many times more."""
    # Nothing is looked at for a row that is put in 0 times.
    leads = kept.leads[table] if many != 0 else []
    looked, rises = 0, {}
    for view, views in leads:
        found = found_in(kept.base_now, table, row, view[0])
        if found is not None:
            looked += len(views)
            rises[view] = (_cut(found, view[1]), many * _product(kept, views, found))
    changed = {view: rise for view, rise in rises.items() if rise[1] != 0}
    told = {view: _risen(known, changed[view]) if view in changed else known for view, known in kept.told.items()}
    return Kept(base, kept.open_doors, told, kept.leads, (looked, len(changed)))


def _product(kept, views, found):
    """The product of the entries of these views for what is found."""
    product = 1
    for view in views:
        product = product * kept.told[view].get(_cut(found, view[1]), 0)
    return product


def _cut(found, columns):
    """The integers that are found for the columns."""
    return tuple([found[column] for column in columns])


def _risen(known, rise):
    """The entries of a view, one of which rises."""
    integers, number = rise
    told = {key: known[key] for key in known if key != integers}
    left = known.get(integers, 0) + number
    if left != 0:
        told[integers] = left
    return told

"""Changes of the river or of the rights that injure nobody."""

from blindweirs.errors import BadName, BadRight, OtherLags, TooMany
from blindweirs.given import need_number_between, need_river, need_stretch
from blindweirs.reasons import book, is_book
from blindweirs.rights import MOST_RIGHTS, is_claim, need_rights, river_of, sure_table
from blindweirs.search import last_up_to
from blindweirs.tables import Table, a_water, both, is_water, is_within
from blindweirs.values import is_pair


def _need_change(old, old_rights, new, new_rights, first, last):
    need_river(old)
    need_rights(old, old_rights)
    need_river(new)
    need_rights(new, new_rights)
    need_stretch(first, last)


def _need_same_lags(old, new):
    if old.lags != new.lags:
        raise OtherLags("the new river has other lags than the old one")


def _need_common_name(old_rights, new_rights, name):
    if name not in old_rights.names or name not in new_rights.names:
        raise BadName(name)


def _table_with_elders(river, rights, first, last, name):
    """The waters from which a right is sure."""
    return sure_table(river, rights, rights.elders(name), first, last)


def injured(old, old_rights, new, new_rights, first, last):
    """The ascending tuple of the names of the rights that are sure from some water no more."""
    _need_change(old, old_rights, new, new_rights, first, last)
    _need_same_lags(old, new)
    found = []
    for name in sorted(old_rights.names):
        if name in new_rights.names:
            was = _table_with_elders(old, old_rights, first, last, name)
            if not is_within(was, _table_with_elders(new, new_rights, first, last, name)):
                found.append(name)
    return tuple(found)


def _water_beyond(table, other):
    """A water that fits a table and not another one; None if there is none."""
    bounds = other.bounds
    for a, b in bounds:
        further = Table(table.size, {(b, a): -bounds[(a, b)] - 1})
        water = a_water(both(table, further))
        if water is not None:
            return water
    return None


def injury(old, old_rights, new, new_rights, first, last, name):
    """A water from which a right was sure, and the book why it is so no more; None if it is not injured."""
    _need_change(old, old_rights, new, new_rights, first, last)
    _need_common_name(old_rights, new_rights, name)
    _need_same_lags(old, new)
    was = _table_with_elders(old, old_rights, first, last, name)
    water = _water_beyond(was, _table_with_elders(new, new_rights, first, last, name))
    if water is None:
        return None
    becoming = river_of(new, new_rights, new_rights.elders(name), first, last)
    return (water, book(becoming, 0, last - first, water))


def is_injury(old, old_rights, new, new_rights, first, last, name, thing):
    """Whether any value shows that a right is injured."""
    _need_change(old, old_rights, new, new_rights, first, last)
    _need_common_name(old_rights, new_rights, name)
    _need_same_lags(old, new)
    if not is_pair(thing):
        return False
    water, reasons = thing
    was = _table_with_elders(old, old_rights, first, last, name)
    if not is_water(water) or len(water) != was.size or not was.fits(water):
        return False
    becoming = river_of(new, new_rights, new_rights.elders(name), first, last)
    return is_book(becoming, 0, last - first, water, reasons)


def harmless_most(river, rights, right, at, first, last):
    """The greatest part of a right with which, put in at an index, it injures none of the others."""
    need_river(river)
    need_rights(river, rights)
    if not is_claim(right) or right[0] in rights.names or right[1] >= len(river.lags):
        raise BadRight("no right, or one whose name is there already, or of a place that the river has not")
    need_number_between(at, 0, len(rights))
    need_stretch(first, last)
    if len(rights) == MOST_RIGHTS:
        raise TooMany(MOST_RIGHTS)
    # The elder ones do not feel what comes behind them.
    were = [(other, _table_with_elders(river, rights, first, last, other)) for other in rights.names[at:]]
    name, place, day, amount = right

    def harms_nobody(number):
        if number == 0:
            return True
        joined = rights.with_right(at, (name, place, day, number))
        for other, was in were:
            if not is_within(was, _table_with_elders(river, joined, first, last, other)):
                return False
        return True

    return last_up_to(0, amount, harms_nobody)

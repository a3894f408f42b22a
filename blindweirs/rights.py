"""Rights to take water, and which of them are sure from a water, for all rains."""

from blindweirs.days import MOST_PLACES, River
from blindweirs.errors import BadLot, BadName, BadRight, BadRights, TooMany
from blindweirs.given import need_number_between, need_river, need_stretch, need_water
from blindweirs.kept import can_keep, tables
from blindweirs.values import is_list, is_number_between, is_number_from

MOST_RIGHTS = 8
MOST_LETTERS = 6
MOST_IN_LOTS = 6


def is_claim(thing):
    """Whether any value is a right: (name, place, day, amount)."""
    if not isinstance(thing, tuple) or len(thing) != 4:
        return False
    name, place, day, amount = thing
    if not _is_name(name) or not is_number_between(place, 0, MOST_PLACES - 1):
        return False
    return is_number_from(day, 0) and is_number_from(amount, 1)


def _is_name(thing):
    if not isinstance(thing, str) or not 1 <= len(thing) <= MOST_LETTERS:
        return False
    return all(["a" <= sign <= "z" for sign in thing])


class Rights:
    """Rights by their rank, the elder ones ahead."""

    def __init__(self, rights=()):
        if not is_list(rights):
            raise BadRights(None)
        names = []
        for at, right in enumerate(rights):
            if not is_claim(right) or right[0] in names:
                raise BadRights(at)
            names.append(right[0])
        if len(rights) > MOST_RIGHTS:
            raise TooMany(MOST_RIGHTS)
        self._rights = tuple(rights)

    @property
    def rights(self):
        return self._rights

    @property
    def names(self):
        return tuple([right[0] for right in self._rights])

    def _index(self, name):
        for at, right in enumerate(self._rights):
            if right[0] == name:
                return at
        raise BadName(name)

    def right(self, name):
        """The right of this name."""
        return self._rights[self._index(name)]

    def elders(self, name):
        """The names up to this one, itself among them."""
        return self.names[:self._index(name) + 1]

    def with_right(self, at, right):
        """The Rights with a right more, put in at an index."""
        need_number_between(at, 0, len(self._rights))
        if not is_claim(right) or right[0] in self.names:
            raise BadRight("no right, or one whose name is there already")
        return Rights(self._rights[:at] + (right,) + self._rights[at:])

    def without(self, name):
        """The Rights but the one of this name."""
        at = self._index(name)
        return Rights(self._rights[:at] + self._rights[at + 1:])

    def moved(self, name, at):
        """The Rights with the one of this name taken out and put in at an index of the others."""
        return self.without(name).with_right(at, self.right(name))

    def __len__(self):
        return len(self._rights)

    def __eq__(self, other):
        return isinstance(other, Rights) and self._rights == other._rights


def need_rights(river, rights):
    if not isinstance(rights, Rights):
        raise BadRights(None)
    if not all([right[1] < len(river.lags) for right in rights.rights]):
        raise BadRights(None)


def _is_lot(rights, thing):
    if not isinstance(thing, tuple):
        return False
    return thing == tuple([name for name in rights.names if name in thing])


def need_lot(rights, lot):
    if not _is_lot(rights, lot):
        raise BadLot("no tuple of different names of the rights, in their order")


def with_taken(day, number, rights):
    """The day of this number on which these rights are taken, too, as far as they are of it."""
    takes = list(day.takes)
    for _, place, on_day, amount in rights:
        if on_day == number:
            takes[place] += amount
    return day.with_takes(takes)


def river_of(river, rights, lot, first, last):
    """The river of a stretch of days in which the rights of a lot are taken, too."""
    need_river(river)
    need_rights(river, rights)
    need_lot(rights, lot)
    need_stretch(first, last)
    taken = [right for right in rights.rights if right[0] in lot]
    return River([with_taken(river.day_on(number), number, taken) for number in range(first, last + 1)])


def sure_table(river, rights, lot, first, last):
    """The closed table of the waters from which a lot is sure."""
    return tables(river_of(river, rights, lot, first, last), 0, last - first)[0][0]


def _is_sure_lot(river, rights, lot, first, last, water):
    return can_keep(river_of(river, rights, lot, first, last), 0, last - first, water)


def is_sure(river, rights, name, first, last, water):
    """Whether a right is sure, together with its elders."""
    need_river(river)
    need_rights(river, rights)
    return _is_sure_lot(river, rights, rights.elders(name), first, last, water)


def _need_all(river, rights, first, last, water):
    need_river(river)
    need_rights(river, rights)
    need_stretch(first, last)
    need_water(river.lags, water)


def sure_number(river, rights, first, last, water):
    """The greatest number of rights, the eldest ones, that are sure together; None if there is none."""
    _need_all(river, rights, first, last, water)
    for number in reversed(range(len(rights) + 1)):
        if _is_sure_lot(river, rights, rights.names[:number], first, last, water):
            return number
    return None


def _all_sure_lots(river, rights, first, last, water):
    """The list of all lots that are sure."""
    _need_all(river, rights, first, last, water)
    if len(rights) > MOST_IN_LOTS:
        raise TooMany(MOST_IN_LOTS)
    lots = [()]
    for name in rights.names:
        lots = lots + [lot + (name,) for lot in lots]
    return [lot for lot in lots if _is_sure_lot(river, rights, lot, first, last, water)]


def _is_within_other(lot, lots):
    """Whether another one of the lots has all names of a lot."""
    return any([lot != other and all([name in other for name in lot]) for other in lots])


def sure_lots(river, rights, first, last, water):
    """The ascending list of the sure lots that are not within another sure one."""
    sure = _all_sure_lots(river, rights, first, last, water)
    return sorted([lot for lot in sure if not _is_within_other(lot, sure)])


def chosen_lot(river, rights, first, last, water):
    """The sure lot that the ranks choose; None if no lot is sure."""
    sure = _all_sure_lots(river, rights, first, last, water)
    if len(sure) == 0:
        return None
    for name in rights.names:
        # Those that are left agree on all names ahead.
        having = [lot for lot in sure if name in lot]
        if len(having) > 0:
            sure = having
    return sure[0]

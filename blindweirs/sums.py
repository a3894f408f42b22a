"""Least sums: the least of several sums of rain, for all rains at once."""

from blindweirs.errors import BadRains, BadSums
from blindweirs.values import is_list, is_number_between, is_number_from, is_pair


def _is_drop(thing):
    return is_pair(thing) and is_number_from(thing[0], 0) and is_number_from(thing[1], 0)


def _is_sum(thing):
    """Whether any value is a pair of a number and an ascending tuple of different drops."""
    if not is_pair(thing) or not is_number_from(thing[0], 0) or not isinstance(thing[1], tuple):
        return False
    if not all([_is_drop(drop) for drop in thing[1]]):
        return False
    return all([ahead < behind for ahead, behind in zip(thing[1], thing[1][1:])])


def are_rains(thing):
    """Whether any value is a dict from drops to numbers from 0 on."""
    if not isinstance(thing, dict):
        return False
    return all([_is_drop(drop) and is_number_from(thing[drop], 0) for drop in thing])


def need_rains(rains):
    if not are_rains(rains):
        raise BadRains("no dict from drops to numbers from 0 on")


def _needed(told):
    """The ascending list of the sums but those that are never less than another one."""
    drops = sorted(set([drop for _, lot in told for drop in lot]))
    bits = {drop: 1 << at for at, drop in enumerate(drops)}
    needed = []
    lots = []
    # With the shorter lots ahead no sum makes one needless that stands ahead of it.
    for number, _, lot in sorted([(number, len(lot), lot) for number, lot in told]):
        bit_lot = sum([bits[drop] for drop in lot])
        if not _has_part(lots, bit_lot):
            needed.append((number, lot))
            lots.append(bit_lot)
    return sorted(needed)


def _has_part(lots, whole):
    """Whether one of the lots, told as bits, lies within a whole."""
    for lot in lots:
        if lot | whole == whole:
            return True
    return False


class LeastSum:
    """The least of several sums, each of a number and the rain of a lot of drops."""

    def __init__(self, sums):
        if not is_list(sums) or len(sums) == 0:
            raise BadSums(None)
        for at, told in enumerate(sums):
            if not _is_sum(told):
                raise BadSums(at)
        self._sums = tuple(_needed(sums))

    @property
    def sums(self):
        return list(self._sums)

    @property
    def drops(self):
        return tuple(sorted(set([drop for _, lot in self._sums for drop in lot])))

    def value(self, rains):
        """What the least sum comes to by these rains."""
        need_rains(rains)
        return min([number + rain_on(lot, rains) for number, lot in self._sums])

    def known(self, rains):
        """The least sum of the other drops, when these rains are known."""
        need_rains(rains)
        told = []
        for number, lot in self._sums:
            left = tuple([drop for drop in lot if drop not in rains])
            told.append((number + rain_on(lot, rains), left))
        return LeastSum(told)

    def __or__(self, other):
        return LeastSum(self._sums + other._sums)

    def __eq__(self, other):
        return isinstance(other, LeastSum) and self._sums == other._sums


def rain_on(lot, rains):
    """What rains on all drops of a lot together."""
    return sum([rains.get(drop, 0) for drop in lot])


def _need_two(one, other):
    if not isinstance(one, LeastSum) or not isinstance(other, LeastSum):
        raise BadSums(None)


def _is_at_most(one, other):
    """Whether a sum is by all rains at most another one."""
    return one[0] <= other[0] and all([drop in other[1] for drop in one[1]])


def never_more(one, other):
    """Whether the value of one is by all rains at most that of the other."""
    return cover(one, other) is not None


def cover(one, other):
    """For each needed sum of other the index of one that is never more; None if some sum has none."""
    _need_two(one, other)
    found = []
    for told in other.sums:
        at = _index_at_most(one.sums, told)
        if at is None:
            return None
        found.append(at)
    return tuple(found)


def _index_at_most(sums, told):
    """The index of the first sum that is by all rains at most this one; None if there is none."""
    for at, one in enumerate(sums):
        if _is_at_most(one, told):
            return at
    return None


def is_cover(one, other, thing):
    """Whether any value has for each needed sum of other the index of one that is never more."""
    _need_two(one, other)
    ones, others = one.sums, other.sums
    if not isinstance(thing, tuple) or len(thing) != len(others):
        return False
    if not all([is_number_between(at, 0, len(ones) - 1) for at in thing]):
        return False
    return all([_is_at_most(ones[at], told) for at, told in zip(thing, others)])


def more_at(one, other):
    """Rains by which one has the greater value; None if there are none."""
    _need_two(one, other)
    ones = one.sums
    for number, lot in other.sums:
        if _index_at_most(ones, (number, lot)) is None:
            # Each sum of one passes the number by itself or by a single drop that is not in this lot.
            return {drop: 0 if drop in lot else number + 1 for drop in sorted(set(one.drops + other.drops))}
    return None

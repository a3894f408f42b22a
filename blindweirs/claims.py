"""Claims for all rains: whether a change of a season takes anything from a right."""

from blindweirs.due import amounts_at, can_have, deal, need_season
from blindweirs.errors import OtherSpots, TooMany
from blindweirs.streams import greatest_flow
from blindweirs.sums import are_rains
from blindweirs.values import is_number, is_pair

MOST_SUMS = 60
SOURCE = "source"
GOAL = "goal"
OLD = "old"
NEW = "new"


def _need_two(old, new):
    need_season(old)
    need_season(new)
    if old.channels.spots != new.channels.spots:
        raise OtherSpots("the seasons have different spots")


def _few_sums(season, lot):
    """The needed sums of what a lot can have, not too many: the list of pairs of the number and the drops as bits."""
    told = can_have(season, lot).sums
    if len(told) > MOST_SUMS:
        raise TooMany(MOST_SUMS)
    bits = season.channels.bits
    return [(number, sum([bits[drop] for drop in drops])) for number, drops in told]


def _pairs(ones, others):
    """The dict from pairs of indexes to the number of two sums together, and the drops in either and in both."""
    found = {}
    for i, (number, drops) in enumerate(ones):
        for j, (further, lot) in enumerate(others):
            found[(i, j)] = (number + further, drops | lot, drops & lot)
    return found


def _is_at_most(one, other):
    """Whether two sums together are by all rains at most two others together, drop by drop."""
    return one[0] <= other[0] and one[1] | other[1] == other[1] and one[2] | other[2] == other[2]


def _first_at_most(pairs, told):
    """The indexes of the first two sums that are together at most two others; None if there are none."""
    for pair in pairs:
        if _is_at_most(pairs[pair], told):
            return pair
    return None


def _sharpest(pairs):
    """Of pairs with the same drops the first one with the least number."""
    best = {}
    for pair in pairs:
        number, some, twice = pairs[pair]
        if (some, twice) not in best or number < pairs[best[(some, twice)]][0]:
            best[(some, twice)] = pair
    return {pair: pairs[pair] for pair in best.values()}


def _sides(old, new, name):
    """The two sides of what a right is dealt: it never loses if the first one never falls below the second one.

    The first is what new deals with it and old without it, the second what old deals with it and new without it.
    """
    _need_two(old, new)
    was, becomes = old.rights.elders(name), new.rights.elders(name)
    was_with, was_without = _few_sums(old, was), _few_sums(old, was[:-1])
    new_with, new_without = _few_sums(new, becomes), _few_sums(new, becomes[:-1])
    return (_pairs(new_with, was_without), _pairs(was_with, new_without))


def _first_bare(above, below):
    """The first pair of one side that no pair of the other one is at most; None if there is none."""
    sharp = _sharpest(below)
    for told in _sharpest(above).values():
        if _first_at_most(sharp, told) is None:
            return told
    return None


def never_loses(old, new, name):
    """Whether a right is dealt by new at least what it is dealt by old, by all rains."""
    above, below = _sides(old, new, name)
    return _first_bare(above, below) is None


def case(old, new, name):
    """Rains by which a right is dealt less by new than by old; None if there are none."""
    above, below = _sides(old, new, name)
    bare = _first_bare(above, below)
    if bare is None:
        return None
    number, some, twice = bare
    bits = old.channels.bits
    dry = [spot for spot in bits if bits[spot] & twice > 0]
    shared = [spot for spot in bits if bits[spot] & some > 0 and spot not in dry]
    limits = _joined(old, new, name, dry, shared)
    sent = greatest_flow(limits, SOURCE, GOAL)
    rains = {spot: sent[((NEW, spot), (OLD, spot))] for spot in shared}
    # Where it rains that much the drop is in no sum that is the least one.
    plenty = number + sum(list(rains.values())) + 1
    return {spot: 0 if spot in dry else rains.get(spot, plenty) for spot in bits}


def _joined(old, new, name, dry, shared):
    """The net that leads what is taken by new without the right back to the drops, and from there to old with it.

    A dry drop brings nothing, a shared one what is led back to it, each other one any amount. As much as can flow is
    the least number that two sums of the second side have together that leave these others out and share no shared one.
    """
    limits = {}
    takers = [(OLD, old, old.rights.elders(name)), (NEW, new, new.rights.elders(name)[:-1])]
    for side, season, lot in takers:
        channels = season.channels
        amounts = amounts_at(season, lot)
        for source, goal in channels.ways:
            limits[_turned(side, (side, source), (side, goal))] = channels.ways[(source, goal)]
        for spot in channels.spots:
            most = channels.coming.get(spot, 0)
            if spot not in dry and spot not in shared:
                most = None
            limits[_turned(side, SOURCE, (side, spot))] = most
            limits[_turned(side, (side, spot), GOAL)] = amounts.get(spot, 0)
    for spot in shared:
        limits[((NEW, spot), (OLD, spot))] = None
    return limits


def _turned(side, source, goal):
    """The pair of two nodes, the other way about in the half of the net that leads back."""
    if side == OLD:
        return (source, goal)
    return (_end(goal), _end(source))


def _end(node):
    """The same node, source and goal exchanged."""
    if node == SOURCE:
        return GOAL
    if node == GOAL:
        return SOURCE
    return node


def is_case(old, new, name, thing):
    """Whether any value is rains by which a right is dealt less by new than by old."""
    # Here, too, the sums may not be too many.
    _sides(old, new, name)
    if not are_rains(thing):
        return False
    return deal(new, thing)[name] < deal(old, thing)[name]


def shield(old, new, name):
    """For each pair of sums of the first side one of the second side that is at most it; None if some has none."""
    above, below = _sides(old, new, name)
    if _first_bare(above, below) is not None:
        return None
    sharp = _sharpest(below)
    return {pair: _first_at_most(sharp, above[pair]) for pair in above}


def is_shield(old, new, name, thing):
    """Whether any value has for each pair of sums of the first side one of the second side that is at most it."""
    above, below = _sides(old, new, name)
    if not isinstance(thing, dict) or len(thing) != len(above):
        return False
    for pair in thing:
        if not _is_pair_of(above, pair) or not _is_pair_of(below, thing[pair]):
            return False
    return all([_is_at_most(below[thing[pair]], above[pair]) for pair in thing])


def _is_pair_of(pairs, thing):
    """Whether any value is one of these pairs of indexes."""
    return is_pair(thing) and all([is_number(at) for at in thing]) and thing in pairs


def losers(old, new):
    """The ascending tuple of the names of the rights that lose by some rains."""
    _need_two(old, new)
    common = [name for name in sorted(old.rights.names) if name in new.rights.names]
    return tuple([name for name in common if not never_loses(old, new, name)])


def in_the_way(season):
    """The ascending list of the pairs of an elder and a younger right that is by some rains dealt more without it."""
    need_season(season)
    known = {}
    found = []
    for younger in season.rights.names:
        lot = season.rights.elders(younger)
        for elder in lot[:-1]:
            # The rights without the struck one have the same by the season as by the one in which it is struck.
            left = tuple([name for name in lot if name != elder])
            for told in (lot, lot[:-1], left, left[:-1]):
                if told not in known:
                    known[told] = _few_sums(season, told)
            above = _pairs(known[lot], known[left[:-1]])
            if _first_bare(above, _pairs(known[left], known[lot[:-1]])) is not None:
                found.append((elder, younger))
    return sorted(found)

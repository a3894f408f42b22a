"""What is due: behind a season, when all its rain is known, each right gets what its rank leaves to it."""

from blindweirs.channels import Channels, basins, needed_basins, spots_in
from blindweirs.days import point_of
from blindweirs.errors import BadName, BadRights, BadSeason, BadTakings, BadWater, NotPlain, TooMany
from blindweirs.given import need_river, need_stretch, need_water
from blindweirs.rights import need_lot, need_rights
from blindweirs.steps import are_releases, flow
from blindweirs.streams import greatest_flow
from blindweirs.sums import LeastSum, need_rains, rain_on
from blindweirs.values import is_list, is_number_between, is_number_from, is_pair

MOST_SPOTS = 12
SKY = "sky"
TAKEN = "taken"


def _is_plain(day):
    """Whether nothing must be let down, nothing is taken, and the marks are just rooms of places."""
    if max(day.takes) > 0 or max([least for least, _ in day.outlets]) > 0:
        return False
    points = [point_of(day.lags, place) for place in range(len(day.lags))]
    bounds = day.marks.bounds
    return all([a in points and b == a - 1 and bounds[(a, b)] >= 0 for a, b in bounds])


class Season:
    """A stretch of days that is looked at from behind it."""

    def __init__(self, river, first, last, water, rights):
        need_river(river)
        need_stretch(first, last)
        need_water(river.lags, water)
        if min(water) < 0:
            raise BadWater("no water has less than nothing")
        need_rights(river, rights)
        for at, right in enumerate(rights.rights):
            if not first <= right[2] <= last:
                raise BadRights(at)
        for number in range(first, last + 1):
            if not _is_plain(river.day_on(number)):
                raise NotPlain(number)
        if (last - first + 1) * len(river.lags) > MOST_SPOTS:
            raise TooMany(MOST_SPOTS)
        self._river = river
        self._first = first
        self._last = last
        self._water = water
        self._rights = rights
        self._channels = Channels(river, first, last, water)

    @property
    def river(self):
        return self._river

    @property
    def first(self):
        return self._first

    @property
    def last(self):
        return self._last

    @property
    def water(self):
        return self._water

    @property
    def rights(self):
        return self._rights

    @property
    def channels(self):
        """The spots, and the ways of water between them."""
        return self._channels

    def __eq__(self, other):
        return (isinstance(other, Season) and self._river == other._river and self._first == other._first
                and self._last == other._last and self._water == other._water and self._rights == other._rights)


def need_season(season):
    if not isinstance(season, Season):
        raise BadSeason("no season")


def _need_name(season, name):
    if name not in season.rights.names:
        raise BadName(name)


def _are_takings(season, thing):
    """Whether any value is a dict from names of rights to numbers up to their amounts."""
    if not isinstance(thing, dict):
        return False
    names = season.rights.names
    for name in thing:
        if name not in names or not is_number_between(thing[name], 0, season.rights.right(name)[3]):
            return False
    return True


def _need_tried(season, rains, takings):
    need_season(season)
    need_rains(rains)
    if not _are_takings(season, takings):
        raise BadTakings("no dict from names of the rights to numbers up to their amounts")


def _taken_at(season, takings):
    """The dict from spots to what is taken there."""
    found = {}
    for name in takings:
        _, place, day, _ = season.rights.right(name)
        found[(day, place)] = found.get((day, place), 0) + takings[name]
    return found


def amounts_at(season, lot):
    """The dict from spots to what the rights of a lot are to have there."""
    return _taken_at(season, {name: season.rights.right(name)[3] for name in lot})


def course(season, rains, takings):
    """What is spilled and let down on each day, such that the takings can be had; None if they cannot."""
    _need_tried(season, rains, takings)
    taken = _taken_at(season, takings)
    coming = season.channels.coming
    limits = {way: season.channels.ways[way] for way in season.channels.ways}
    for spot in season.channels.spots:
        limits[(SKY, spot)] = coming.get(spot, 0) + rains.get(spot, 0)
        limits[(spot, TAKEN)] = taken.get(spot, 0)
    sent = greatest_flow(limits, SKY, TAKEN)
    if not all([sent[(spot, TAKEN)] == limits[(spot, TAKEN)] for spot in season.channels.spots]):
        return None
    return [_course_on(season, day, limits, sent) for day in range(season.first, season.last + 1)]


def _course_on(season, day, limits, sent):
    """What is spilled and let down on a day: what comes and does not go on to be taken, and what goes on."""
    lags = season.river.lags
    spills = []
    releases = []
    for place, lag in enumerate(lags):
        spot = (day, place)
        spills.append(limits[(SKY, spot)] - sent[(SKY, spot)])
        releases.append(sent.get((spot, (day + lag, place + 1)), 0))
    return (tuple(spills), tuple(releases))


def is_course(season, rains, takings, thing):
    """Whether any value has for each day what is spilled and let down, such that the takings can be had."""
    _need_tried(season, rains, takings)
    days = list(range(season.first, season.last + 1))
    if not is_list(thing) or len(thing) != len(days):
        return False
    taken = _taken_at(season, takings)
    lying = season.water
    for number, told in zip(days, thing):
        day = season.river.day_on(number)
        if not _is_course_on(day, told):
            return False
        spills, releases = told
        left = []
        for place, spilled in enumerate(spills):
            left.append(rains.get((number, place), 0) - taken.get((number, place), 0) - spilled)
        lying = flow(day, lying, left, releases)
        if not day.sound.fits(lying):
            return False
    return True


def _is_course_on(day, thing):
    """Whether any value is a pair of tuples, of what is spilled, and of releases within the outlets."""
    if not is_pair(thing) or not isinstance(thing[0], tuple) or not isinstance(thing[1], tuple):
        return False
    if len(thing[0]) != len(day.lags) or not all([is_number_from(spilled, 0) for spilled in thing[0]]):
        return False
    return are_releases(day, thing[1])


def _basin_values(season, lot, rains):
    """The dict from basins to the values of their sums for a lot by rains."""
    return basins(season.channels, amounts_at(season, lot), rains)


def _together(season, lot, rains):
    """How much the rights of a lot can have together by rains."""
    return min(list(_basin_values(season, lot, rains).values()))


def deal(season, rains):
    """The dict from the names to what is dealt by rank."""
    need_season(season)
    need_rains(rains)
    dealt = {}
    ahead = 0
    for name in season.rights.names:
        together = _together(season, season.rights.elders(name), rains)
        dealt[name] = together - ahead
        ahead = together
    return {name: dealt[name] for name in sorted(dealt)}


def can_have(season, lot):
    """The least sum of how much the rights of a lot can have together."""
    need_season(season)
    need_lot(season.rights, lot)
    numbers = _basin_values(season, lot, {})
    told = []
    for basin in needed_basins(season.channels, numbers):
        within = spots_in(season.channels, basin)
        told.append((numbers[basin], tuple([spot for spot in season.channels.spots if spot not in within])))
    return LeastSum(told)


def _is_short(season, rains, name, together):
    """Whether a right is dealt less than its amount, where its elders and itself have so much together."""
    others = season.rights.elders(name)[:-1]
    return together - _together(season, others, rains) < season.rights.right(name)[3]


def _need_called(season, rains, name):
    need_season(season)
    need_rains(rains)
    _need_name(season, name)


def call(season, rains, name):
    """A basin that shows that a right cannot be dealt more; None if it is dealt its amount."""
    _need_called(season, rains, name)
    values = _basin_values(season, season.rights.elders(name), rains)
    together = min(list(values.values()))
    if not _is_short(season, rains, name, together):
        return None
    # A sum with the right's own spot counts its whole amount: where the right is short it is not the least one.
    shown = [basin for basin in values if values[basin] == together]
    return spots_in(season.channels, shown[0])


def is_call(season, rains, name, thing):
    """Whether any value is a basin that shows that a right cannot be dealt more."""
    _need_called(season, rains, name)
    bits = season.channels.bits
    if not isinstance(thing, tuple) or not all([_is_spot(season, spot) for spot in thing]):
        return False
    if not all([ahead < behind for ahead, behind in zip(thing, thing[1:])]):
        return False
    # It need not be asked whether the right takes there: its whole amount counts in such a sum, and it is short.
    values = _basin_values(season, season.rights.elders(name), rains)
    together = min(list(values.values()))
    if values.get(sum([bits[spot] for spot in thing])) != together:
        return False
    return _is_short(season, rains, name, together)


def _is_spot(season, thing):
    if not is_pair(thing) or not is_number_between(thing[0], season.first, season.last):
        return False
    return is_number_between(thing[1], 0, len(season.river.lags) - 1)


def needs(season, lot):
    """The ascending list of what must rain on which drops so that the rights of a lot can be served in full."""
    told = can_have(season, lot).sums
    amounts = sum(list(amounts_at(season, lot).values()))
    lacking = {drops: amounts - number for number, drops in told if number < amounts}
    if () in lacking:
        return [((), lacking[()])]
    return sorted([(drops, lacking[drops]) for drops in _not_made_up(lacking)])


def _not_made_up(lacking):
    """The list of the lots whose numbers no others within them, without a common drop, come to."""
    drops = sorted(set([drop for lot in lacking for drop in lot]))
    bits = {drop: 1 << at for at, drop in enumerate(drops)}
    lots = {sum([bits[drop] for drop in lot]): lot for lot in lacking}
    most = {}
    found = []
    # The parts of a lot, told as bits, are lesser numbers than the lot.
    for whole in range(1, 1 << len(drops)):
        numbers = [0]
        for lot in lots:
            if lot < whole and lot | whole == whole:
                numbers.append(lacking[lots[lot]] + most[whole - lot])
        most[whole] = max(numbers)
        if whole in lots and lacking[lots[whole]] > most[whole]:
            most[whole] = lacking[lots[whole]]
            found.append(lots[whole])
    return found


def unmet(season, lot, rains):
    """The first of the needs that is not met by rains; None if all are."""
    need_season(season)
    need_lot(season.rights, lot)
    need_rains(rains)
    for drops, number in needs(season, lot):
        if rain_on(drops, rains) < number:
            return (drops, number)
    return None

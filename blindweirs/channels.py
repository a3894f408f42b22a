"""The spots of a stretch of days, the ways of water between them, and the basins that they make."""

from blindweirs.days import cells_of, point_of


class Channels:
    """Spots, pairs (day, place), ascending, what water comes to them at first, and what may go from one to another."""

    def __init__(self, river, first, last, water):
        places = len(river.lags)
        self.spots = tuple([(day, place) for day in range(first, last + 1) for place in range(places)])
        self.bits = {spot: 1 << at for at, spot in enumerate(self.spots)}
        self.coming = _coming(river.lags, first, water)
        self.ways = {}
        for day, place in self.spots:
            for goal, most in _ways_from(river, day, place):
                if goal in self.bits:
                    self.ways[((day, place), goal)] = most


def _coming(lags, first, water):
    """The dict from spots, also behind the last day, to the water of the first morning that comes there."""
    found = {}
    for (place, step), lying in zip(cells_of(lags), water):
        spot = (first, place)
        if step > 0:
            spot = (first + lags[place] - step, place + 1)
        found[spot] = found.get(spot, 0) + lying
    return found


def _ways_from(river, day, place):
    """The list of the spots to which water goes from one, with the most that may go there, None for no bound."""
    point = point_of(river.lags, place)
    told = river.day_on(day)
    room = told.marks.bounds.get((point, point - 1))
    return [((day + river.lags[place], place + 1), told.outlets[place][1]), ((day + 1, place), room)]


def spots_in(channels, basin):
    """The ascending tuple of the spots of a basin, which is told as the sum of their bits."""
    return tuple([spot for spot in channels.spots if channels.bits[spot] & basin > 0])


def basins(channels, amounts, rains):
    """The dict from basins to what comes out of them and of the sky besides, and is taken within.

    The amounts are a dict from spots to what is taken there. A way without a bound does not leave a basin.
    """
    into = {spot: [] for spot in channels.spots}
    for source, goal in channels.ways:
        into[goal].append((channels.bits[source], channels.ways[(source, goal)]))
    found = {0: 0}
    # All ways lead from a spot to a later one: when a spot is looked at it is told where those ahead of it lie.
    for spot in channels.spots:
        bit, amount = channels.bits[spot], amounts.get(spot, 0)
        coming = channels.coming.get(spot, 0) + rains.get(spot, 0)
        further = {}
        for basin in found:
            further[basin + bit] = found[basin] + amount
            entering = _entering(into[spot], basin)
            if entering is not None:
                further[basin] = found[basin] + coming + entering
        found = further
    return found


def _entering(ways, basin):
    """The most that comes from a basin by these ways; None if one of them has no bound."""
    total = 0
    for bit, most in ways:
        if bit & basin > 0:
            if most is None:
                return None
            total += most
    return total


def needed_basins(channels, numbers):
    """The basins with a lesser number than all those that have their spots and more."""
    bits = list(channels.bits.values())
    whole = sum(bits)
    least = {whole: numbers[whole]}
    needed = [whole]
    for basin in reversed(range(whole)):
        above = min([least[basin + bit] for bit in bits if basin & bit == 0])
        least[basin] = min(above, numbers.get(basin, above))
        if least[basin] < above:
            needed.append(basin)
    return needed

"""Tables of bounds on the water between two points."""

from blindweirs.errors import BadPoints, BadRain, BadTable, BadWater, OtherSize
from blindweirs.values import is_list, is_number, is_number_between, is_pair
from blindweirs.ways import is_losing_ring, losing_ring

MOST_CELLS = 12


def is_water(thing):
    """Whether any value is a tuple of 1 to 12 numbers."""
    if not isinstance(thing, tuple) or not 1 <= len(thing) <= MOST_CELLS:
        return False
    return all([is_number(cell) for cell in thing])


def sums(water):
    """The tuple of the sums of a water at all points, from point 0 on."""
    if not is_water(water):
        raise BadWater("a water is a tuple of 1 to 12 numbers")
    found = [0]
    for cell in water:
        found.append(found[-1] + cell)
    return tuple(found)


def water_of(points):
    """The water whose sums differ from point to point as these numbers do."""
    return tuple([below - above for above, below in zip(points, points[1:])])


def _are_bounds(thing, size):
    """Whether any value is a dict from pairs of different points to numbers."""
    if not isinstance(thing, dict):
        return False
    for pair in thing:
        if not is_pair(pair) or not is_number(thing[pair]):
            return False
        if not all([is_number_between(point, 0, size) for point in pair]) or pair[0] == pair[1]:
            return False
    return True


class Table:
    """Bounds on the sum at one point less the sum at another one."""

    def __init__(self, size, bounds=None):
        if not is_number_between(size, 1, MOST_CELLS):
            raise BadTable("size")
        if bounds is None:
            bounds = {}
        if not _are_bounds(bounds, size):
            raise BadTable("bounds")
        self._size = size
        self._bounds = {pair: bounds[pair] for pair in sorted(bounds)}

    @property
    def size(self):
        return self._size

    @property
    def bounds(self):
        return {pair: self._bounds[pair] for pair in self._bounds}

    def fits(self, water):
        """Whether a water keeps each of the bounds."""
        found = sums(water)
        if len(water) != self._size:
            raise OtherSize("the water has another size than the table")
        return all([found[a] - found[b] <= self._bounds[(a, b)] for a, b in self._bounds])

    def __eq__(self, other):
        return isinstance(other, Table) and self._size == other._size and self._bounds == other._bounds


def _need_table(table, part):
    if not isinstance(table, Table):
        raise BadTable(part)


def _need_two(one, other):
    _need_table(one, "one")
    _need_table(other, "other")
    if one.size != other.size:
        raise OtherSize("the tables have different sizes")


def nothing(size):
    """The table of this size that tells that no water fits."""
    return Table(size, {(0, 1): -1, (1, 0): 0})


def _least_ways(table):
    """Row by row the least sum of bounds along a way from each point to each one, None where no way leads.

    None alone if some ring sums to less than 0.
    """
    count = table.size + 1
    bounds = table.bounds
    least = [[bounds.get((above, below)) for below in range(count)] for above in range(count)]
    for a in range(count):
        least[a][a] = 0
    for middle in range(count):
        # A ring shows at the last of its points, before the numbers begin to fall without end.
        if least[middle][middle] < 0:
            return None
        for a in range(count):
            if least[a][middle] is not None:
                _go_through(least, a, middle)
    return least


def _go_through(least, a, middle):
    """Take the way from a by a point in the middle wherever it is the lesser one."""
    step = least[a][middle]
    for b, further in enumerate(list(least[middle])):
        if further is not None and (least[a][b] is None or step + further < least[a][b]):
            least[a][b] = step + further


def _table_of(least):
    """The table with the numbers of these rows as its bounds, None for no bound."""
    bounds = {}
    for a, row in enumerate(least):
        for b, number in enumerate(row):
            if a != b and number is not None:
                bounds[(a, b)] = number
    return Table(len(least) - 1, bounds)


def closed(table):
    """The table of the greatest differences that the waters have that fit."""
    _need_table(table, None)
    least = _least_ways(table)
    if least is None:
        return nothing(table.size)
    return _table_of(least)


def is_empty(table):
    """Whether no water fits."""
    _need_table(table, None)
    return _least_ways(table) is None


def ring(table):
    """A ring of points whose bounds sum to less than 0; None if some water fits."""
    _need_table(table, None)
    return losing_ring(table.bounds)


def is_ring(table, thing):
    """Whether any value is a ring of the table."""
    _need_table(table, None)
    if not is_list(thing) or not all([is_number_between(point, 0, table.size) for point in thing]):
        return False
    return is_losing_ring(table.bounds, thing)


def is_within(one, other):
    """Whether all waters that fit one fit other."""
    _need_two(one, other)
    least = _least_ways(one)
    if least is None:
        return True
    limits = other.bounds
    return all([least[a][b] is not None and least[a][b] <= limits[(a, b)] for a, b in limits])


def is_same(one, other):
    """Whether the same waters fit both."""
    return is_within(one, other) and is_within(other, one)


def both(one, other):
    """The table of the bounds of both, the lesser one where both have one."""
    _need_two(one, other)
    bounds = one.bounds
    further = other.bounds
    for pair in further:
        if pair not in bounds or further[pair] < bounds[pair]:
            bounds[pair] = further[pair]
    return Table(one.size, bounds)


def highest(table):
    """The water that fits with the greatest sums; None if there is none."""
    _need_table(table, None)
    least = _least_ways(table)
    if least is None:
        return None
    greatest = [row[0] for row in least]
    if None in greatest:
        return None
    return water_of(greatest)


def lowest(table):
    """The water that fits with the least sums; None if there is none."""
    _need_table(table, None)
    least = _least_ways(table)
    if least is None or None in least[0]:
        return None
    return water_of([-number for number in least[0]])


def a_water(table):
    """A water that fits; None if none does."""
    _need_table(table, None)
    least = _least_ways(table)
    if least is None:
        return None
    # The least way to anywhere keeps each bound: a step and the least way behind it are a way, too.
    return water_of([min([number for number in row if number is not None]) for row in least])


def hidden(table, points):
    """The closed table of the points that are left, numbered anew."""
    _need_table(table, None)
    if not _can_hide(points, table.size):
        raise BadPoints("an ascending tuple of different points from 1 on, not all of them")
    left = [point for point in range(table.size + 1) if point not in points]
    least = _least_ways(table)
    if least is None:
        return nothing(len(left) - 1)
    return _table_of([[least[a][b] for b in left] for a in left])


def _can_hide(points, size):
    if not isinstance(points, tuple) or len(points) >= size:
        return False
    if not all([is_number_between(point, 1, size) for point in points]):
        return False
    return all([above < below for above, below in zip(points, points[1:])])


def is_bounded(table):
    """Whether some water fits and all differences of sums have a greatest value."""
    least = _least_ways(table)
    return least is not None and not any([None in row for row in least])


def worn(table, rain):
    """The closed table of the waters that fit whichever water of the rain is added."""
    _need_table(table, None)
    if not isinstance(rain, Table) or not is_bounded(rain):
        raise BadRain("a rain has waters, and a bound for each pair")
    if table.size != rain.size:
        raise OtherSize("the rain has another size than the table")
    bounds = closed(table).bounds
    most = closed(rain).bounds
    # What nothing fits stays so: a rain's bounds along a ring do not sum to less than 0.
    return closed(Table(table.size, {pair: bounds[pair] - most[pair] for pair in bounds}))

"""A river that is led from day to day, whose deeds can be taken back."""

from blindweirs.days import River, rain_between
from blindweirs.errors import BadName, BadRight, NothingDone, NotNow, OtherLags
from blindweirs.given import need_day, need_number_between, need_river, need_row, need_stretch, need_water
from blindweirs.kept import can_keep, releases_for
from blindweirs.reasons import book
from blindweirs.rights import is_claim, need_rights, with_taken
from blindweirs.steps import flow, need_releases


class Standing:
    """How a river stands behind a deed. It is changed no more once it is told, so that it can be gone back to."""

    def __init__(self, ahead, deed, number, lying, came, ranks, served, dated):
        self.ahead = ahead
        self.deed = deed
        self.number = number
        self.lying = lying
        self.came = came
        self.ranks = ranks
        self.served = served
        self.dated = dated

    def behind(self, deed):
        """The same behind one deed more, for what this deed changes to be put in."""
        return Standing(self, deed, self.number, self.lying, self.came, self.ranks, self.served, self.dated)


class Block:
    """What a block goes back to if it is left by an exception, and the block around it."""

    def __init__(self, standing, outer):
        self.standing = standing
        self.outer = outer


class Led:
    """A river that is led from the morning of a first day to the evening of a last one."""

    def __init__(self, river, rights, last, water, first=0):
        need_river(river)
        need_rights(river, rights)
        need_stretch(first, last)
        need_water(river.lags, water)
        dated = {number: river.day_on(number) for number in range(first, last + 1)}
        self._began = (river, rights, last, water, first)
        self._last = last
        self._standing = Standing(None, None, first, water, None, rights, rights.names, dated)
        self._block = None

    @property
    def today(self):
        return self._standing.number

    @property
    def water(self):
        return self._standing.lying

    @property
    def row(self):
        return self._standing.came

    @property
    def lot(self):
        return self._standing.served

    @property
    def rights(self):
        return self._standing.ranks

    @property
    def log(self):
        """The list of the deeds that stand."""
        found = []
        standing = self._standing
        while standing.ahead is not None:
            found.append(standing.deed)
            standing = standing.ahead
        return found[::-1]

    @property
    def is_over(self):
        return self._standing.number > self._last

    def _need_time(self):
        if self.is_over:
            raise NotNow("over")

    def _need_row(self):
        if self.row is None:
            raise NotNow("rain")

    def _taken(self, lot):
        """The rights of a lot."""
        return [self.rights.right(name) for name in lot]

    def come(self, row):
        """Today's row comes."""
        self._need_time()
        need_row(self._standing.dated[self.today], row)
        if self.row is not None:
            raise NotNow("rain")
        standing = self._standing.behind(("rain", row))
        standing.came = row
        self._standing = standing

    def let(self, releases):
        """What the lot has on this day is taken and the releases are let down: the next morning comes."""
        self._need_time()
        day = with_taken(self._standing.dated[self.today], self.today, self._taken(self.lot))
        need_releases(day, releases)
        self._need_row()
        left = flow(day, self.water, self.row, releases)
        if not day.sound.fits(left):
            raise NotNow("unsound")
        standing = self._standing.behind(("let", tuple(releases)))
        standing.number = self.today + 1
        standing.lying = left
        standing.came = None
        self._standing = standing

    def drop(self, name):
        """A right is in the lot no more."""
        self._need_time()
        if name not in self.rights.names:
            raise BadName(name)
        if name not in self.lot:
            raise NotNow("drop")
        standing = self._standing.behind(("drop", name))
        standing.served = tuple([other for other in self.lot if other != name])
        self._standing = standing

    def file(self, right):
        """A right more, behind all others."""
        self._need_time()
        if not is_claim(right) or right[1] >= len(self._began[0].lags):
            raise BadRight("no right, or one of a place that the river has not")
        standing = self._standing.behind(("file", right))
        standing.ranks = self.rights.with_right(len(self.rights), right)
        standing.served = self.lot + (right[0],)
        self._standing = standing

    def change(self, day, number):
        """Another Day stands in the place of that of a day from today on."""
        self._need_time()
        need_day(day)
        if day.lags != self._began[0].lags:
            raise OtherLags("the day has other lags than the river")
        need_number_between(number, self.today, self._last)
        dated = {other: self._standing.dated[other] for other in self._standing.dated}
        dated[number] = day
        standing = self._standing.behind(("change", day, number))
        standing.dated = dated
        self._standing = standing

    def undo(self):
        """The last deed that stands is taken back."""
        if self._standing.ahead is None:
            raise NothingDone("no deed stands")
        self._standing = self._standing.ahead

    def _river_with(self, lot):
        """The river from today on with the rights of a lot taken, its first day with the row alone that has come."""
        days = []
        for number in range(self.today, self._last + 1):
            days.append(with_taken(self._standing.dated[number], number, self._taken(lot)))
        if self.row is not None:
            days[0] = days[0].with_rain(rain_between(self.row, self.row))
        return River(days)

    def _days_left(self):
        """The number of the last day, counted from today."""
        return self._last - self.today

    def stretch(self):
        """The river of the days that are left, its day 0 being today."""
        self._need_time()
        return self._river_with(self.lot)

    def is_kept(self):
        """Whether all evenings that are left can be kept sound, whatever rows come."""
        return self.is_over or can_keep(self.stretch(), 0, self._days_left(), self.water)

    def why(self):
        """A book that shows that the water cannot be kept; None if it can."""
        if self.is_over:
            return None
        return book(self.stretch(), 0, self._days_left(), self.water)

    def may(self):
        """The least and the greatest releases behind which all can be kept; None if there are none."""
        self._need_time()
        self._need_row()
        return releases_for(self.stretch(), 0, self._days_left(), self.water, self.row)

    def sure(self):
        """The names of the longest beginning of the lot that is sure; None if there is none."""
        self._need_time()
        for many in reversed(range(len(self.lot) + 1)):
            lot = self.lot[:many]
            if can_keep(self._river_with(lot), 0, self._days_left(), self.water):
                return lot
        return None

    def __enter__(self):
        self._block = Block(self._standing, self._block)
        return self

    def __exit__(self, kind, value, trace):
        if kind is not None:
            self._standing = self._block.standing
        self._block = self._block.outer

    def tried(self, work):
        """What work returns for the river, called in a block."""
        with self as same:
            return work(same)

    def begun(self):
        """A river that began as this one, without its deeds."""
        river, rights, last, water, first = self._began
        return Led(river, rights, last, water, first)

    def copy(self):
        """An independent river with the same deeds, in no block."""
        made = self.begun()
        made._standing = self._standing
        return made

    def __eq__(self, other):
        return isinstance(other, Led) and self._began == other._began and self.log == other.log

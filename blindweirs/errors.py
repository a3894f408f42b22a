"""The errors of the package, one class for each kind of failure."""


class RiverError(ValueError):
    """What all errors of the package are."""


class BadWater(RiverError):
    """No water, or none of the cells concerned."""


class BadTable(RiverError):
    """No table, or a part of one that is not as described."""

    def __init__(self, part):
        super().__init__("the table, or a part of it, is not as described")
        self.part = part


class OtherSize(RiverError):
    """A table meets a table or a water of another size."""


class BadPoints(RiverError):
    """No points as described."""


class BadRain(RiverError):
    """No rain."""


class BadLags(RiverError):
    """No lags of a river."""


class BadPlace(RiverError):
    """No number of a place."""


class BadDay(RiverError):
    """No day, or a part of one that is not as described."""

    def __init__(self, part):
        super().__init__("the day, or a part of it, is not as described")
        self.part = part


class BadDays(RiverError):
    """No days of a river."""

    def __init__(self, at):
        super().__init__("these are no days of a river")
        self.at = at


class BadRiver(RiverError):
    """No river."""


class BadNumber(RiverError):
    """No number as described."""


class BadRow(RiverError):
    """No row that the rain of the day has."""


class BadReleases(RiverError):
    """No releases within the outlets."""


class BadRows(RiverError):
    """No rows of the days."""

    def __init__(self, at):
        super().__init__("these are no rows of the days")
        self.at = at


class BadReasons(RiverError):
    """No reasons in their form."""


class NoRain(RiverError):
    """A reason that the rain does not play."""


class BadRights(RiverError):
    """No rights, or none of this river."""

    def __init__(self, at):
        super().__init__("these are no rights, or not of this river")
        self.at = at


class BadRight(RiverError):
    """No right that can be put in."""


class BadName(RiverError):
    """No name of a right."""

    def __init__(self, name):
        super().__init__("no right has this name")
        self.name = name


class BadLot(RiverError):
    """No lot of the rights."""


class TooMany(RiverError):
    """More than a point of the document allows."""

    def __init__(self, most):
        super().__init__("there are too many")
        self.most = most


class OtherLags(RiverError):
    """A river or a day with other lags."""


class BadPlaces(RiverError):
    """No list of different places."""


class NotApart(RiverError):
    """The marks do not let this border be drawn."""


class BadPromise(RiverError):
    """No promise at the border."""


class NotPlain(RiverError):
    """A day that is not told place by place."""

    def __init__(self, day):
        super().__init__("this day is not plain")
        self.day = day


class BadPrices(RiverError):
    """No prices."""


class BadSums(RiverError):
    """No sums."""

    def __init__(self, at):
        super().__init__("these are no sums")
        self.at = at


class BadRains(RiverError):
    """No rains of drops."""


class BadSeason(RiverError):
    """No season."""


class BadTakings(RiverError):
    """No takings of the rights."""


class OtherSpots(RiverError):
    """A season with other spots."""


class NotNow(RiverError):
    """A deed or a question out of its time."""

    def __init__(self, word):
        super().__init__("this is not to be done now")
        self.word = word


class NothingDone(RiverError):
    """There is no deed to take back."""


class BadLed(RiverError):
    """No river that is led."""


class BadJournal(RiverError):
    """A journal that goes wrong."""

    def __init__(self, at):
        super().__init__("the journal goes wrong")
        self.at = at


class BadText(RiverError):
    """A text that does not tell what it should."""

    def __init__(self, line):
        super().__init__("the text does not tell what it should")
        self.line = line

"""Texts of tables, rivers, rights and reasons, and how they are read again."""

from blindweirs.days import Day, River, size_of
from blindweirs.errors import BadReasons, BadRights, BadTable, BadText, RiverError
from blindweirs.given import need_river
from blindweirs.reasons import is_reason
from blindweirs.rights import Rights
from blindweirs.tables import MOST_CELLS, Table
from blindweirs.values import is_list
from blindweirs.words import are_numbers, joined, numbers_of

NO_BOUND = "-"


def _ended(lines):
    return "".join([line + "\n" for line in lines])


def _bound_lines(table, ahead):
    """The list of a line for each bound, with what stands ahead of its numbers."""
    bounds = table.bounds
    return [ahead + joined([a, b, bounds[(a, b)]]) for a, b in bounds]


def table_text(table):
    """The text of a table."""
    if not isinstance(table, Table):
        raise BadTable(None)
    return _ended([f"table {table.size}"] + _bound_lines(table, ""))


def river_text(river):
    """The text of a river."""
    need_river(river)
    lines = ["lags " + joined(river.lags)]
    for day in river.days:
        outlets = [NO_BOUND if number is None else number for outlet in day.outlets for number in outlet]
        lines = lines + ["day", "outlets " + joined(outlets), "takes " + joined(day.takes)]
        lines = lines + _bound_lines(day.rain, "rain ") + _bound_lines(day.marks, "mark ")
    return _ended(lines)


def rights_text(rights):
    """The text of rights."""
    if not isinstance(rights, Rights):
        raise BadRights(None)
    return _ended([f"right {name} " + joined(numbers) for name, *numbers in rights.rights])


def reasons_text(reasons):
    """The text of reasons, whether they hold or not."""
    if not is_list(reasons) or not all([is_reason(reason, MOST_CELLS) for reason in reasons]):
        raise BadReasons("no list of reasons in their form")
    lines = []
    for when, day, a, b, number, why in reasons:
        lines.append(" ".join([when, joined([day, a, b, number]), why[0]] + [str(index) for index in why[1:]]))
    return _ended(lines)


def _lines_of(text):
    """The list of the lists of words of the lines; one that is not ended has no words."""
    if not isinstance(text, str):
        raise BadText(0)
    lines = text.split("\n")
    found = [line.split(" ") for line in lines[:-1]]
    if lines[-1] != "":
        found.append([])
    return found


def _begins(lines, at, word):
    """Whether a line is there and begins with a word."""
    return at < len(lines) and len(lines[at]) > 0 and lines[at][0] == word


def _words_behind(lines, at, word):
    """The words of a line that must be there behind its first one."""
    if not _begins(lines, at, word):
        raise BadText(at)
    return lines[at][1:]


def _numbers_behind(lines, at, word):
    """The numbers of a line, one or more, that must be there behind its first word."""
    words = _words_behind(lines, at, word)
    if len(words) == 0 or not are_numbers(words):
        raise BadText(at)
    return numbers_of(words)


def _put_bound(bounds, words, at):
    """Put in the bound that the words of a line tell, whose pair must come behind those that are there."""
    if len(words) != 3 or not are_numbers(words):
        raise BadText(at)
    a, b, number = numbers_of(words)
    if len(bounds) > 0 and list(bounds)[-1] >= (a, b):
        raise BadText(at)
    bounds[(a, b)] = number


def read_table(text):
    """The table that has exactly this text."""
    lines = _lines_of(text)
    sizes = _numbers_behind(lines, 0, "table")
    if len(sizes) != 1:
        raise BadText(0)
    bounds = {}
    for at, words in enumerate(lines):
        if at > 0:
            _put_bound(bounds, words, at)
    try:
        return Table(sizes[0], bounds)
    except RiverError:
        raise BadText(len(lines))


def _read_bounds(lines, at, word):
    """The bounds of lines that begin with a word, and the number of the line behind them."""
    bounds = {}
    while _begins(lines, at, word):
        _put_bound(bounds, lines[at][1:], at)
        at += 1
    return (bounds, at)


def _read_outlets(lines, at, places):
    words = _words_behind(lines, at, "outlets")
    least, most = words[::2], words[1::2]
    if len(words) != 2 * places or not are_numbers(least + [word for word in most if word != NO_BOUND]):
        raise BadText(at)
    greatest = [None if word == NO_BOUND else int(word) for word in most]
    return list(zip(numbers_of(least), greatest))


def _read_day(lines, at, places):
    """The parts of a day whose lines begin at one, and the number of the line behind them."""
    if len(_words_behind(lines, at, "day")) > 0:
        raise BadText(at)
    outlets = _read_outlets(lines, at + 1, places)
    takes = _numbers_behind(lines, at + 2, "takes")
    if len(takes) != places:
        raise BadText(at + 2)
    rain, behind = _read_bounds(lines, at + 3, "rain")
    marks, behind = _read_bounds(lines, behind, "mark")
    return ((outlets, rain, takes, marks), behind)


def _river_told(lags, days):
    """The river that parts of days tell, if they tell one."""
    made = []
    for outlets, rain, takes, marks in days:
        made.append(Day(lags, outlets, Table(len(lags), rain), takes, Table(size_of(lags), marks)))
    return River(made)


def read_river(text):
    """The river that has exactly this text."""
    lines = _lines_of(text)
    lags = _numbers_behind(lines, 0, "lags")
    days = []
    at = 1
    while at < len(lines):
        told, at = _read_day(lines, at, len(lags))
        days.append(told)
    try:
        return _river_told(lags, days)
    except RiverError:
        raise BadText(len(lines))


def read_rights(text):
    """The rights that have exactly this text."""
    lines = _lines_of(text)
    told = []
    for at in range(len(lines)):
        words = _words_behind(lines, at, "right")
        if len(words) != 4 or words[0] == "" or not are_numbers(words[1:]):
            raise BadText(at)
        told.append((words[0],) + numbers_of(words[1:]))
    try:
        return Rights(told)
    except RiverError:
        raise BadText(len(lines))


def read_reasons(text):
    """The reasons that have exactly this text, whether they hold or not."""
    reasons = []
    for at, words in enumerate(_lines_of(text)):
        reason = _reason_told(words)
        if not is_reason(reason, MOST_CELLS):
            raise BadText(at)
        reasons.append(reason)
    return reasons


def _reason_told(words):
    """What the words of a line would tell as a reason; None if there are words in the place of numbers."""
    if len(words) < 6 or not are_numbers(words[1:5]) or not are_numbers(words[6:]):
        return None
    return (words[0],) + numbers_of(words[1:5]) + ((words[5],) + numbers_of(words[6:]),)

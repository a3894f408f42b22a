"""The book of reasons by which the rain breaks a mark, whatever is let down."""

from blindweirs.days import size_of, worst_row
from blindweirs.errors import BadReasons, BadWater, NoRain
from blindweirs.given import need_number_between, need_river, need_stretch, need_water
from blindweirs.kept import comes_from, gains, places_above
from blindweirs.tables import MOST_CELLS, is_water, sums
from blindweirs.values import is_list, is_number, is_number_between, is_number_from

MORNING = "morning"
EVENING = "evening"
INDEXES = {"mark": 0, "sum": 2, "next": 1, "rain": 1}


def is_reason(thing, most):
    """Whether any value has the form of a reason, with points from 0 to this one."""
    if not isinstance(thing, tuple) or len(thing) != 6:
        return False
    when, day, a, b, number, why = thing
    if when not in (MORNING, EVENING) or not is_number(day) or not is_number(number):
        return False
    return is_number_between(a, 0, most) and is_number_between(b, 0, most) and _is_why(why)


def _is_why(thing):
    if not isinstance(thing, tuple) or len(thing) == 0 or not isinstance(thing[0], str):
        return False
    many = INDEXES.get(thing[0])
    if many is None or len(thing) != many + 1:
        return False
    return all([is_number_from(index, 0) for index in thing[1:]])


def _are_in_order(thing, most):
    """Whether any value is a list of reasons, days from 0 on, each behind those that it names."""
    if not is_list(thing) or not all([is_reason(reason, most) for reason in thing]):
        return False
    for at, (_, day, _, _, _, why) in enumerate(thing):
        if day < 0 or not all([index < at for index in why[1:]]):
            return False
    return True


def _breaks(water, reason):
    heights = sums(water)
    return heights[reason[2]] - heights[reason[3]] > reason[4]


def is_book(river, first, last, water, thing):
    """Whether any value is a list of reasons that show that a water cannot be kept."""
    need_river(river)
    need_stretch(first, last)
    need_water(river.lags, water)
    if not _are_in_order(thing, size_of(river.lags)) or len(thing) == 0:
        return False
    if not all([first <= reason[1] <= last for reason in thing]):
        return False
    added = {number: gains(river.day_on(number)) for number in range(first, last + 1)}
    if not all([_holds(river, added, thing, reason) for reason in thing]):
        return False
    return thing[-1][0] == MORNING and thing[-1][1] == first and _breaks(water, thing[-1])


def _holds(river, added, reasons, reason):
    """Whether a reason is as its why tells; added has the gains of each day."""
    why = reason[5]
    if why[0] == "mark":
        return _holds_by_mark(river, reason)
    if why[0] == "sum":
        return _holds_by_sum(reason, reasons[why[1]], reasons[why[2]])
    if why[0] == "next":
        return _holds_by_next(reason, reasons[why[1]])
    return _holds_by_rain(river, added, reason, reasons[why[1]])


def _holds_by_mark(river, reason):
    when, day, a, b, number, _ = reason
    if when != EVENING:
        return False
    bound = river.day_on(day).marks.bounds.get((a, b))
    if bound is not None and number >= bound:
        return True
    return b == a + 1 and number >= 0


def _holds_by_sum(reason, one, other):
    when, day, a, b, number, _ = reason
    if one[:2] != (when, day) or other[:2] != (when, day):
        return False
    if one[2] != a or one[3] != other[2] or other[3] != b:
        return False
    return one[4] + other[4] <= number


def _holds_by_next(reason, one):
    when, day, a, b, number, _ = reason
    return when == EVENING and one[:4] == (MORNING, day + 1, a, b) and one[4] <= number


def _holds_by_rain(river, added, reason, one):
    when, day, a, b, number, _ = reason
    if when != MORNING or one[:2] != (EVENING, day):
        return False
    c, d = one[2], one[3]
    come = comes_from(river.lags)
    if come[c] != a or come[d] != b:
        return False
    if c == d:
        return number >= one[4]
    return (c, d) in added[day] and number >= one[4] + added[day][(c, d)]


def book(river, first, last, water):
    """A list of reasons that show that a water cannot be kept; None if it can."""
    need_river(river)
    need_stretch(first, last)
    need_water(river.lags, water)
    reasons = []
    known = {}
    for number in reversed(range(first, last + 1)):
        day = river.day_on(number)
        known = _of_evening(reasons, day, number, known)
        known = _of_morning(reasons, day, number, known)
    shown = [at for at in known.values() if _breaks(water, reasons[at])]
    if len(shown) == 0:
        return None
    return _needed(reasons, shown[0])


def _of_evening(reasons, day, number, known):
    """The indexes of the sharpest reasons of an evening, by points; known are those of the next morning."""
    found = {}
    for a, b in known:
        at = known[(a, b)]
        _note(reasons, found, (EVENING, number, a, b, reasons[at][4], ("next", at)))
    bounds = day.marks.bounds
    for a, b in bounds:
        _note(reasons, found, (EVENING, number, a, b, bounds[(a, b)], ("mark",)))
    for cell in range(size_of(day.lags)):
        _note(reasons, found, (EVENING, number, cell, cell + 1, 0, ("mark",)))
    return _summed(reasons, found, size_of(day.lags))


def _of_morning(reasons, day, number, known):
    """The indexes of the sharpest reasons of a morning, by points; known are those of its evening."""
    come = comes_from(day.lags)
    added = gains(day)
    found = {}
    for c, d in known:
        at = known[(c, d)]
        if c == d or (c, d) in added:
            least = reasons[at][4] + added.get((c, d), 0)
            _note(reasons, found, (MORNING, number, come[c], come[d], least, ("rain", at)))
    return _summed(reasons, found, size_of(day.lags))


def _note(reasons, known, reason):
    """Take in a reason that is sharper than what is known of its points."""
    pair = (reason[2], reason[3])
    if pair[0] == pair[1] and reason[4] >= 0:
        return
    if pair not in known or reason[4] < reasons[known[pair]][4]:
        known[pair] = len(reasons)
        reasons.append(reason)


def _summed(reasons, known, most):
    """What is known of points and all that sums of it tell; one reason alone if every water breaks it."""
    for middle in range(most + 1):
        if (middle, middle) in known:
            return {(middle, middle): known[(middle, middle)]}
        for a in range(most + 1):
            for b in range(most + 1):
                if (a, middle) in known and (middle, b) in known:
                    i, j = known[(a, middle)], known[(middle, b)]
                    when, day, _, _, number, _ = reasons[i]
                    _note(reasons, known, (when, day, a, b, number + reasons[j][4], ("sum", i, j)))
    return known


def _needed(reasons, last_at):
    """The reasons on which one of them rests, and this one as the last."""
    needed = {last_at: True}
    for at in reversed(range(last_at + 1)):
        if at in needed:
            for index in reasons[at][5][1:]:
                needed[index] = True
    place = {}
    told = []
    for at in sorted(needed):
        when, day, a, b, number, why = reasons[at]
        place[at] = len(told)
        moved = tuple([place[index] for index in why[1:]])
        told.append((when, day, a, b, number, (why[0],) + moved))
    return told


def _need_reasons(reasons, most):
    if not _are_in_order(reasons, most):
        raise BadReasons("no list of reasons in their form, each behind those that it names")


def row_by(river, reasons, at):
    """The row that the rain plays at a reason, so that the evening breaks the one that it names."""
    need_river(river)
    _need_reasons(reasons, size_of(river.lags))
    need_number_between(at, 0, len(reasons) - 1)
    _, day, a, b, _, why = reasons[at]
    if why[0] != "rain":
        raise NoRain("the rain does not play at this reason")
    above = places_above(river.lags)
    return worst_row(river.day_on(day).rain, above[a], above[b])


def next_by(reasons, at, water):
    """The index of the reason that the same water breaks next; None at a mark."""
    _need_reasons(reasons, MOST_CELLS)
    need_number_between(at, 0, len(reasons) - 1)
    if not is_water(water):
        raise BadWater("no water")
    why = reasons[at][5]
    if why[0] == "mark":
        return None
    if why[0] == "sum":
        one = reasons[why[1]]
        if max(one[2], one[3]) > len(water):
            raise BadWater("the first reason of the sum has a point beyond the water")
        if not _breaks(water, one):
            return why[2]
    return why[1]

"""A desk at which a river is led by lines of words."""

from blindweirs.errors import (BadName, BadPrices, BadReleases, BadRight, BadRow, NothingDone, NotNow, TooMany)
from blindweirs.live import Led
from blindweirs.power import safe_day
from blindweirs.rights import Rights
from blindweirs.texts import read_river, reasons_text
from blindweirs.words import figures_of, joined, numbers_of

MOST_FIGURES = 13
DONE = "ok"
NONE = "none"
UNKNOWN = "not understood"


def _undo(led):
    led.undo()
    return DONE


def _day(led):
    return str(led.today)


def _water(led):
    return joined(led.water)


def _kept(led):
    return "yes" if led.is_kept() else "no"


def _may(led):
    ends = led.may()
    if ends is None:
        return NONE
    return joined(ends[0]) + " / " + joined(ends[1])


def _sure(led):
    lot = led.sure()
    if lot is None:
        return NONE
    if lot == ():
        return "-"
    return joined(lot)


def _why(led):
    reasons = led.why()
    if reasons is None:
        return NONE
    return "; ".join(reasons_text(reasons).splitlines())


def _rain(led, numbers):
    led.come(numbers)
    return DONE


def _let(led, numbers):
    led.let(numbers)
    return DONE


def _best(led, numbers):
    river = led.stretch()
    if led.row is None:
        raise NotNow("rain")
    releases = safe_day(river, 0, len(river) - 1, led.water, led.row, numbers)
    if releases is None:
        return NONE
    return joined(releases)


ALONE = {"undo": _undo, "day": _day, "water": _water, "kept": _kept, "may": _may, "sure": _sure, "why": _why}
WITH_NUMBERS = {"rain": _rain, "let": _let, "best": _best}


def _is_short(word):
    """Whether a word is a number as Python writes it, of not too many figures."""
    figures = figures_of(word)
    return figures is not None and len(figures) <= MOST_FIGURES


def _answer(led, word, rest):
    """The answer to a word and those behind it."""
    if word in ALONE and len(rest) == 0:
        action = ALONE[word]
        return action(led)
    if word in WITH_NUMBERS and len(rest) > 0 and all([_is_short(told) for told in rest]):
        action = WITH_NUMBERS[word]
        return action(led, numbers_of(rest))
    if word == "drop" and len(rest) == 1 and rest[0] != "":
        led.drop(rest[0])
        return DONE
    if word == "file" and len(rest) == 4 and rest[0] != "" and all([_is_short(told) for told in rest[1:]]):
        led.file((rest[0],) + numbers_of(rest[1:]))
        return DONE
    return UNKNOWN


class Desk:
    """A river without rights, led from day 0 on by what is said."""

    def __init__(self, text, last, water):
        self._led = Led(read_river(text), Rights(), last, water)

    def say(self, line):
        """The answer to a line, which does a deed or asks a question."""
        if not isinstance(line, str) or "\n" in line:
            return UNKNOWN
        words = line.split(" ")
        try:
            return _answer(self._led, words[0], words[1:])
        except NotNow:
            return "error NotNow"
        except NothingDone:
            return "error NothingDone"
        except BadRow:
            return "error BadRow"
        except BadReleases:
            return "error BadReleases"
        except BadRight:
            return "error BadRight"
        except BadName:
            return "error BadName"
        except BadPrices:
            return "error BadPrices"
        except TooMany:
            return "error TooMany"

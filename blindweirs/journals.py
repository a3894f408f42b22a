"""Journals: the deeds by which a river was led, each with what is told behind it."""

from blindweirs.errors import BadJournal, BadLed, RiverError
from blindweirs.live import Led
from blindweirs.tables import is_water
from blindweirs.values import is_list, is_number, is_pair

PARTS = {"rain": 2, "let": 2, "drop": 2, "file": 2, "change": 3, "undo": 1}


def _need_led(led):
    if not isinstance(led, Led):
        raise BadLed("no river that is led")


def _told(led):
    """What a journal tells behind a deed."""
    return (led.today, led.water, led.is_kept())


def _is_told(led, thing):
    """Whether any value is what a journal tells of the river as it stands."""
    if not isinstance(thing, tuple) or len(thing) != 3:
        return False
    today, water, kept = thing
    if not is_number(today) or not is_water(water) or not isinstance(kept, bool):
        return False
    return thing == _told(led)


def _is_deed(thing):
    """Whether any value is a tuple of a word and as many parts as go with it, releases being a tuple."""
    if not isinstance(thing, tuple) or len(thing) == 0 or not isinstance(thing[0], str):
        return False
    if PARTS.get(thing[0]) != len(thing):
        return False
    return thing[0] != "let" or isinstance(thing[1], tuple)


def _do(led, deed):
    """Do a deed as a journal tells it."""
    word = deed[0]
    if word == "rain":
        led.come(deed[1])
    elif word == "let":
        led.let(deed[1])
    elif word == "drop":
        led.drop(deed[1])
    elif word == "file":
        led.file(deed[1])
    elif word == "change":
        led.change(deed[1], deed[2])
    else:
        led.undo()


def _goes_on(led, item):
    """Whether any value is a pair of a deed that is done, then, and of what is told behind it."""
    if not is_pair(item) or not _is_deed(item[0]):
        return False
    try:
        _do(led, item[0])
    except RiverError:
        return False
    return _is_told(led, item[1])


def journal_of(led):
    """The journal of the deeds that stand."""
    _need_led(led)
    again = led.begun()
    journal = []
    for deed in led.log:
        _do(again, deed)
        journal.append((deed, _told(again)))
    return journal


def _wrong_at(led, journal):
    """The index of the first item that goes wrong, a river being led by those ahead of it; None if all go well."""
    if not is_list(journal):
        return 0
    for at, item in enumerate(journal):
        if not _goes_on(led, item):
            return at
    return None


def first_wrong(led, journal):
    """The index of the first item that goes wrong with a river that began as this one; None if all go well."""
    _need_led(led)
    return _wrong_at(led.begun(), journal)


def replayed(led, journal):
    """A river that began as this one, behind a journal."""
    _need_led(led)
    again = led.begun()
    at = _wrong_at(again, journal)
    if at is not None:
        raise BadJournal(at)
    return again

"""What the plain values are that callers pass: numbers, lists and pairs."""


def is_number(thing):
    """Whether any value is a number: True and False are none."""
    return isinstance(thing, int) and not isinstance(thing, bool)


def is_number_from(thing, least):
    return is_number(thing) and thing >= least


def is_number_between(thing, least, most):
    return is_number(thing) and least <= thing <= most


def is_list(thing):
    """Whether any value may stand where a list is expected."""
    return isinstance(thing, (list, tuple))


def is_pair(thing):
    return isinstance(thing, tuple) and len(thing) == 2

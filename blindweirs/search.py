"""A search by halves, for what holds from some number on."""


def first_from(least, most, holds):
    """The least number of a stretch from which on something holds; None if it does not at its end."""
    # Often one of the ends tells all.
    if holds(least):
        return least
    if not holds(most):
        return None
    while most - least > 1:
        middle = (least + most) // 2
        if holds(middle):
            most = middle
        else:
            least = middle
    return most


def last_up_to(least, most, holds):
    """The greatest number of a stretch up to which something holds; None if it does not at its beginning."""
    # Turned about it is a search for the first one: distances from the end of the stretch.
    back = first_from(0, most - least, lambda distance: holds(most - distance))
    if back is None:
        return None
    return most - back

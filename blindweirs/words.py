"""Words of texts: numbers as Python writes them, between single blanks."""


def joined(told):
    """The words of numbers, and words themselves, between single blanks."""
    return " ".join([str(part) for part in told])


def figures_of(word):
    """The figures of a word that is a number as Python writes it; None for any other word."""
    figures = word[1:] if word.startswith("-") else word
    if not figures.isascii() or not figures.isdigit():
        return None
    if figures.startswith("0") and word != "0":
        return None
    return figures


def are_numbers(words):
    """Whether all words are numbers as Python writes them."""
    return all([figures_of(word) is not None for word in words])


def numbers_of(words):
    """The tuple of the numbers that words tell."""
    return tuple([int(word) for word in words])

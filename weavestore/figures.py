"""Counts in figures, without noughts ahead, and back."""

FIGURES = "0123456789"
AT_ONCE = 64


def figures_of(number):
    """The figures of a count, of whatever size."""
    bound = 10 ** 64
    pieces = []
    # Python itself refuses to write out numbers of very many figures at once.
    while number >= bound:
        number, low = divmod(number, bound)
        pieces.append(str(low).zfill(AT_ONCE))
    pieces.append(str(number))
    return "".join(pieces[::-1])


def are_figures(text):
    """Whether a text is the figures of a count."""
    if text == "" or not all([sign in FIGURES for sign in text]):
        return False
    return text == "0" or text[0] != "0"


def count_of(figures):
    """The count that has these figures."""
    number = 0
    for sign in figures:
        number = number * 10 + FIGURES.index(sign)
    return number

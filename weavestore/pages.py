"""Page texts, written in place over 61 cells of a disc and read back behind any fall."""

from weavestore.errors import InvalidDisc, InvalidPage, InvalidText, Refused
from weavestore.kinds import GREAT_PRIME, is_count, is_row_of_cells
from weavestore.lines import Line, page_of, read_line

SIGNS = " -,.:;<=>()+*/?!0123456789abcdefghijklmnopqrstuvwxyz"
MOST_SIGNS = 120
BASE = 53
PAGE_CELLS = 61
PAGE_SIZE = 16


def is_page_text(value):
    """Whether any object is a page text."""
    return isinstance(value, str) and len(value) <= MOST_SIGNS and all([sign in SIGNS for sign in value])


def need_page_text(text):
    """Raises InvalidText unless it is a page text."""
    if not is_page_text(text):
        raise InvalidText(text)


def need_place(place):
    """Raises InvalidPage unless it is a page place."""
    if not is_count(place):
        raise InvalidPage(place)


def text_by_number(number):
    """The text that has a count as its number, None if there is none."""
    signs = []
    while number > 0:
        number, digit = divmod(number, BASE)
        if digit == 0 or len(signs) == MOST_SIGNS:
            return None
        signs.append(SIGNS[digit - 1])
    return "".join(signs)


def text_number(text):
    """Returns the number of a page text."""
    need_page_text(text)
    number = 0
    for sign in reversed(text):
        number = number * BASE + SIGNS.index(sign) + 1
    return number


def number_text(number):
    """Returns the page text that has a number."""
    if not is_count(number):
        raise InvalidPage(number)
    text = text_by_number(number)
    if text is None:
        raise InvalidPage(number)
    return text


def page_line():
    """Returns the line on which page texts are written."""
    return Line(GREAT_PRIME, PAGE_CELLS, PAGE_SIZE)


def page_cells(place):
    """Returns the ascending list of the cells of the page at a place."""
    need_place(place)
    return list(range(PAGE_CELLS * place, PAGE_CELLS * place + PAGE_CELLS))


def page_writes(place, text):
    """Returns the list of the tuples (cell, content) that write a text at a place."""
    need_place(place)
    signs = page_of(page_line(), text_number(text))
    return [(PAGE_CELLS * place + at, (0, sign)) for at, sign in enumerate(signs)]


def contents_at(picture, place):
    """What stands in the cells of a place; raises InvalidDisc, then InvalidPage unless the picture has them."""
    if not is_row_of_cells(picture):
        raise InvalidDisc(picture)
    need_place(place)
    if len(picture) < PAGE_CELLS * place + PAGE_CELLS:
        raise InvalidPage(place)
    return picture[PAGE_CELLS * place : PAGE_CELLS * place + PAGE_CELLS]


def near_text(contents):
    """The text of the least number that is near, None if a cell has nothing or there is no such text."""
    if None in contents or any([stamp for stamp, sign in contents]):
        return None
    numbers = read_line(page_line(), [sign for stamp, sign in contents], 0, 0)
    texts = [text_by_number(number) for number in numbers]
    for text in texts:
        if text is not None:
            return text
    return None


def shown(picture, place):
    """Returns the text that is read at a place, None if a cell there has nothing."""
    contents = contents_at(picture, place)
    text = near_text(contents)
    if text is None and None not in contents:
        raise Refused(place)
    return text


def writes_over(contents, place, text):
    """The tuples (cell, content) that write a text over just those contents of a place that are not its."""
    pairs = list(zip(page_writes(place, text), contents))
    return [(cell, content) for (cell, content), stands in pairs if content != stands]


def is_whole(picture, place):
    """Returns whether the cells of a place are just those of the text that is shown."""
    contents = contents_at(picture, place)
    text = near_text(contents)
    return text is not None and writes_over(contents, place, text) == []


def off_cells(picture, place):
    """Returns the ascending list of the cells of a place that are not those of the text that is shown."""
    return [cell for cell, content in mending(picture, place)]


def mending(picture, place):
    """Returns the list of the tuples (cell, content) that make the place whole again."""
    text = shown(picture, place)
    if text is None:
        return []
    return writes_over(contents_at(picture, place), place, text)


def agreement(picture, place):
    """Returns how many cells of a place are those of the text that is shown."""
    text = shown(picture, place)
    if text is None:
        return 0
    return PAGE_CELLS - len(writes_over(contents_at(picture, place), place, text))

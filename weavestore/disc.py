"""Discs whose writes may or may not have come through, and the pictures that a fall may leave."""

from weavestore.errors import InvalidCell, InvalidChoice, InvalidContent, InvalidCount, InvalidDisc, InvalidRun, Unlike
from weavestore.kinds import is_content, is_count_below, is_row_of_cells, is_tuple_of, may_stand_in_cell

MOST_CELLS = 2000


class Disc:
    """Cells in which contents stand, and writes that are pending for them."""

    def __init__(self, cells):
        if not is_count_below(cells, MOST_CELLS + 1) or cells < 1:
            raise InvalidCount(cells)
        self._stands = [None] * cells
        self._news = [None] * cells
        self._pends = []

    def write(self, cell, content):
        """Makes a content pending for a cell."""
        if not is_count_below(cell, len(self._stands)):
            raise InvalidCell(cell)
        if not is_content(content):
            raise InvalidContent(content)
        self._pends.append((cell, content))
        self._news[cell] = content

    def barrier(self):
        """Makes the last content pending for each cell stand."""
        self._stands = list(self._news)
        self._pends = []

    def read(self, cell):
        """Returns what was written to a cell last, None if nothing."""
        if not is_count_below(cell, len(self._stands)):
            raise InvalidCell(cell)
        return self._news[cell]

    def cells(self):
        """Returns the number of cells."""
        return len(self._stands)

    def standing(self):
        """Returns the list, cell by cell, of what stands."""
        return list(self._stands)

    def newest(self):
        """Returns the list, cell by cell, of what was written last."""
        return list(self._news)

    def pending(self):
        """Returns the list of the tuples (cell, content) written since the last barrier."""
        return list(self._pends)

    def copy(self):
        """Returns a disc like this one that goes its own way."""
        other = Disc(len(self._stands))
        other._stands = list(self._stands)
        other._news = list(self._news)
        other._pends = list(self._pends)
        return other

    def __eq__(self, other):
        return isinstance(other, Disc) and self._stands == other._stands and self._pends == other._pends


def need_disc(disc):
    """Raises InvalidDisc unless it is a disc."""
    if not isinstance(disc, Disc):
        raise InvalidDisc(disc)


def unlike_ones(values):
    """The unlike ones of a list of contents and None, in the order in which they first come."""
    return list({value: True for value in values})


def held_by_cells(disc):
    """The list, cell by cell, of the lists of the unlike contents that a fall may leave there."""
    held = [[content] for content in disc.standing()]
    for cell, content in disc.pending():
        held[cell].append(content)
    return [unlike_ones(contents) for contents in held]


def is_one_of_each(cloud, value):
    """Whether any object is a list of one of each list of a cloud."""
    if not is_row_of_cells(value) or len(value) != len(cloud):
        return False
    return all([content in contents for content, contents in zip(value, cloud)])


def product_of(numbers):
    """What comes if numbers are multiplied."""
    total = 1
    for number in numbers:
        total = total * number
    return total


def may_hold(disc, cell):
    """Returns the list of the unlike contents that a fall may leave in a cell, the standing one first."""
    need_disc(disc)
    if not is_count_below(cell, disc.cells()):
        raise InvalidCell(cell)
    return unlike_ones([disc.standing()[cell]] + [content for at, content in disc.pending() if at == cell])


def many_pictures(disc):
    """Returns how many pictures of a disc there are."""
    need_disc(disc)
    return product_of([len(contents) for contents in held_by_cells(disc)])


def picture_at(disc, number):
    """Returns the picture of a disc with a number, the last cell's content changing fastest."""
    if not is_count_below(number, many_pictures(disc)):
        raise InvalidCount(number)
    backwards = []
    for contents in reversed(held_by_cells(disc)):
        number, place = divmod(number, len(contents))
        backwards.append(contents[place])
    return backwards[::-1]


def number_of_picture(disc, picture):
    """Returns the number of a picture of a disc."""
    if not is_picture(disc, picture):
        raise InvalidChoice(picture)
    number = 0
    for content, contents in zip(picture, held_by_cells(disc)):
        number = number * len(contents) + contents.index(content)
    return number


def is_picture(disc, value):
    """Returns whether any object is a picture of a disc."""
    need_disc(disc)
    return is_one_of_each(held_by_cells(disc), value)


def disc_of(picture):
    """Returns the disc in which a picture stands, nothing pending."""
    if not is_row_of_cells(picture) or not 1 <= len(picture) <= MOST_CELLS:
        raise InvalidChoice(picture)
    disc = Disc(len(picture))
    for cell, content in enumerate(picture):
        if content is not None:
            disc.write(cell, content)
    disc.barrier()
    return disc


def fall(disc, picture):
    """Returns the disc that a fall leaves with a picture of a disc."""
    if not is_picture(disc, picture):
        raise InvalidChoice(picture)
    return disc_of(picture)


def is_cell_write(disc, value):
    """Whether any object is a tuple of a cell of a disc and a content."""
    return is_tuple_of(value, 2) and is_count_below(value[0], disc.cells()) and is_content(value[1])


def are_disc_runs(disc, value):
    """Whether any object is a list of lists of writes of a disc."""
    if not isinstance(value, list) or not all([isinstance(run, list) for run in value]):
        return False
    return all([is_cell_write(disc, write) for run in value for write in run])


def cloud(disc, runs):
    """Returns the list, cell by cell, of the lists of the contents that falls in falls may leave there."""
    need_disc(disc)
    if not are_disc_runs(disc, runs):
        raise InvalidRun(runs)
    # A later list is written over a picture that any fall ahead may have left, so nothing ever
    # ceases to be possible: what may stand only grows.
    held = held_by_cells(disc)
    for run in runs:
        for cell, content in run:
            held[cell].append(content)
    return [unlike_ones(contents) for contents in held]


def need_cloud(cloud):
    """Raises InvalidChoice unless it is a list of lists, none empty, of contents and None."""
    if not isinstance(cloud, list) or not cloud:
        raise InvalidChoice(cloud)
    if not all([is_row_of_cells(contents) and len(contents) > 0 for contents in cloud]):
        raise InvalidChoice(cloud)


def is_in_cloud(cloud, value):
    """Returns whether any object is a list of one of each list of a cloud."""
    need_cloud(cloud)
    return is_one_of_each(cloud, value)


def many_in_cloud(cloud):
    """Returns how many unlike lists of one of each list of a cloud there are."""
    need_cloud(cloud)
    return product_of([len(unlike_ones(contents)) for contents in cloud])


def need_row_of_cells(row):
    """Raises InvalidChoice unless it is a list, not empty, of contents and None."""
    if not is_row_of_cells(row) or not row:
        raise InvalidChoice(row)


def unlike_cells(one, other):
    """Returns the ascending list of the cells in which two lists are unlike."""
    need_row_of_cells(one)
    need_row_of_cells(other)
    if len(one) != len(other):
        raise Unlike(other)
    return [cell for cell in range(len(one)) if one[cell] != other[cell]]


def with_cells(one, harms):
    """Returns the list with what a dictionary tells in the places of cells."""
    need_row_of_cells(one)
    if not isinstance(harms, dict):
        raise InvalidCell(harms)
    for cell, content in harms.items():
        if not is_count_below(cell, len(one)):
            raise InvalidCell(cell)
        if not may_stand_in_cell(content):
            raise InvalidContent(content)
    return [harms.get(cell, content) for cell, content in enumerate(one)]

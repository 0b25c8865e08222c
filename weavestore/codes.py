"""Codes whose pages are read back as the old or the new one, whatever a fall leaves."""

from itertools import combinations

from weavestore.errors import InvalidCell, InvalidCode, InvalidPage, Unlike
from weavestore.kinds import ascends, are_ascending_below, is_count, is_count_below, is_tuple_of
from weavestore.needs import need_changed_and_unread


def is_code(value):
    """Returns whether any object is a code."""
    if not isinstance(value, list) or len(value) < 2:
        return False
    if not all([is_row_of_signs(page) for page in value]):
        return False
    if not all([len(page) == len(value[0]) for page in value]):
        return False
    return len({tuple(page) for page in value}) == len(value)


def is_row_of_signs(value):
    """Whether any object is a list, not empty, of counts."""
    return isinstance(value, list) and len(value) > 0 and all([is_count(sign) for sign in value])


def need_code(code):
    """Raises InvalidCode unless it is a code."""
    if not is_code(code):
        raise InvalidCode(code)


def need_position(code, position):
    """Raises InvalidPage unless it is the position of a page of a code."""
    if not is_count_below(position, len(code)):
        raise InvalidPage(position)


def shows_two(one, other, value, changed, unread):
    """Whether any object is a picture of two pages."""
    if not isinstance(value, list) or len(value) != len(one):
        return False
    if not all([sign is None or is_count(sign) for sign in value]):
        return False
    strange = [sign for x, y, sign in zip(one, other, value) if sign is not None and sign != x and sign != y]
    return value.count(None) <= unread and len(strange) <= changed


def all_twos(code):
    """The ascending list of the tuples of two positions, the first not above the second."""
    return [(one, other) for one in range(len(code)) for other in range(one, len(code))]


def is_picture(code, one, other, value, changed, unread):
    """Returns whether any object is a picture of two pages."""
    need_code(code)
    need_position(code, one)
    need_position(code, other)
    need_changed_and_unread(changed, unread)
    return shows_two(code[one], code[other], value, changed, unread)


def twos(code, value, changed, unread):
    """Returns the ascending list of the tuples of positions of which any object is a picture."""
    need_code(code)
    need_changed_and_unread(changed, unread)
    rows = all_twos(code)
    return [(one, other) for one, other in rows if shows_two(code[one], code[other], value, changed, unread)]


def told_pages(code, value, changed, unread):
    """Returns the ascending list of the positions that are in all tuples of which it is a picture."""
    rows = twos(code, value, changed, unread)
    if not rows:
        return []
    return in_all(rows)


def in_all(rows):
    """The ascending list of the positions that are in all tuples of a list, not empty."""
    return [page for page in sorted({rows[0][0], rows[0][1]}) if all([page in row for row in rows])]


def told_page(code, value, changed, unread):
    """Returns a position that is in all tuples of which it is a picture, None if there is none."""
    told = told_pages(code, value, changed, unread)
    if not told:
        return None
    return told[0]


def unlike_cells_of_three(code, three):
    """The cells in which three pages are all unlike."""
    one, other, third = [code[position] for position in three]
    rows = list(zip(one, other, third))
    return [cell for cell, (x, y, z) in enumerate(rows) if x != y and y != z and x != z]


def parted_cells(code, pair, late):
    """The cells in which no page of one tuple has the sign of a page of the other one."""
    cells = range(len(code[0]))
    return [cell for cell in cells if not any([code[x][cell] == code[y][cell] for x in pair for y in late])]


def all_dangers(code):
    """What may make a code unsafe: tuples of the cells that keep tuples of two apart, and these.

    Tuples of two that have no page in all of them are three over the same three pages, or two
    without a page in both; over two pages alone, each of these with itself.
    """
    if len(code) == 2:
        return [(parted_cells(code, (0, 0), (1, 1)), ((0, 0), (1, 1)))]
    found = []
    for x, y, z in combinations(range(len(code)), 3):
        found.append((unlike_cells_of_three(code, (x, y, z)), ((x, y), (x, z), (y, z))))
    rows = all_twos(code)
    for pair, late in combinations(rows, 2):
        if pair[0] != pair[1] and late[0] != late[1] and not any([page in late for page in pair]):
            found.append((parted_cells(code, pair, late), (pair, late)))
    return found


def is_danger(danger, changed, unread):
    """Whether the tuples of a danger have a picture in common."""
    cells, tuples = danger
    return len(cells) <= len(tuples) * changed + unread


def is_safe(code, changed, unread):
    """Returns whether there is a told page for each picture of any two pages."""
    need_code(code)
    need_changed_and_unread(changed, unread)
    return not any([is_danger(danger, changed, unread) for danger in all_dangers(code)])


def cells_unlike(code, one, other, third):
    """Returns in how many cells three pages are all unlike."""
    need_code(code)
    need_position(code, one)
    need_position(code, other)
    if other == one:
        raise InvalidPage(other)
    need_position(code, third)
    if third == one or third == other:
        raise InvalidPage(third)
    return len(unlike_cells_of_three(code, (one, other, third)))


def cells_parted(code, pair, late):
    """Returns in how many cells no page of one tuple has the sign of a page of the other one."""
    need_code(code)
    need_two_positions(code, pair)
    need_two_positions(code, late)
    return len(parted_cells(code, pair, late))


def need_two_positions(code, pair):
    """Raises InvalidPage unless it is a tuple of two positions."""
    if not is_tuple_of(pair, 2) or not all([is_count_below(position, len(code)) for position in pair]):
        raise InvalidPage(pair)


def bad_picture(code, changed, unread):
    """Returns a picture without a told page, and tuples that show it; None if the code is safe."""
    need_code(code)
    need_changed_and_unread(changed, unread)
    for danger in all_dangers(code):
        if is_danger(danger, changed, unread):
            return (picture_of_danger(code, danger, changed, unread), list(danger[1]))
    return None


def picture_of_danger(code, danger, changed, unread):
    """A picture of all the tuples of a danger.

    A cell that keeps them apart costs one of them a changed cell if it bears a sign that all the
    others have, and none if it is unread; in any other cell some sign is of all of them.
    """
    cells, tuples = danger
    picture = [shared_sign(code, tuples, cell) for cell in range(len(code[0]))]
    for place, cell in enumerate(cells):
        if place < unread:
            picture[cell] = None
        else:
            spared = tuples[(place - unread) % len(tuples)]
            picture[cell] = shared_sign(code, [pair for pair in tuples if pair != spared], cell)
    return picture


def shared_sign(code, tuples, cell):
    """A sign that some page of each tuple has in a cell, None if there is none."""
    for sign in [code[position][cell] for position in tuples[0]]:
        if all([sign in [code[position][cell] for position in pair] for pair in tuples]):
            return sign
    return None


def is_bad_picture(code, changed, unread, value):
    """Returns whether any object is a picture without a told page, with tuples that show it."""
    need_code(code)
    need_changed_and_unread(changed, unread)
    if not is_tuple_of(value, 2) or not are_twos(code, value[1]) or not 2 <= len(value[1]) <= 3:
        return False
    picture, rows = value
    if not all([shows_two(code[one], code[other], picture, changed, unread) for one, other in rows]):
        return False
    return not in_all(rows)


def are_twos(code, value):
    """Whether any object is an ascending list of tuples of two positions, the first not above the second."""
    if not isinstance(value, list):
        return False
    for two in value:
        if not is_tuple_of(two, 2) or not all([is_count_below(position, len(code)) for position in two]):
            return False
    return all([one <= other for one, other in value]) and ascends(value)


def strengths(code):
    """Returns the list of the greatest numbers of unread cells, by the numbers of changed ones."""
    need_code(code)
    dangers = all_dangers(code)
    found = []
    spare = min([len(cells) for cells, tuples in dangers]) - 1
    while spare >= 0:
        found.append(spare)
        spare = min([len(cells) - len(tuples) * len(found) for cells, tuples in dangers]) - 1
    return found


def composed(code, inner):
    """Returns the code whose signs are replaced by the pages of an inner one at these positions."""
    need_code(code)
    if not is_code(inner):
        raise InvalidCode(inner)
    if max([sign for page in code for sign in page]) >= len(inner):
        raise Unlike(inner)
    return [[sign for outer in page for sign in inner[outer]] for page in code]


def overwritten(code, value, one, cells):
    """Returns what comes if cells of a picture of any two pages are written over with a page's signs."""
    need_code(code)
    if not twos(code, value, 0, 0):
        raise InvalidPage(value)
    need_position(code, one)
    if not are_ascending_below(cells, len(value)):
        raise InvalidCell(cells)
    return [code[one][cell] if cell in cells else sign for cell, sign in enumerate(value)]
